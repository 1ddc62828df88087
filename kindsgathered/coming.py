"""How many draws it takes until all kinds have come."""

from kindsgathered.fractions import added, lessened, lowest
from kindsgathered.shares import all_kinds, all_some, check_shares, check_some_kinds, share_of
from kindsgathered.whole import check_whole_within, power

MOST_DRAWS = 12


def check_draws(number):
    """Refuse what is no number of draws."""
    check_whole_within(number, 0, MOST_DRAWS)


def just_cases(shares, some, number):
    """In how many cases of so many draws just some kinds come, each at least once."""
    check_shares(shares)
    check_some_kinds(some, shares)
    check_draws(number)
    # The cases may be far too many to go through. Those that bring no other kind are counted at once; those of
    # them that lack a kind are taken out; those that lack two were taken out twice, and are put in again; and so on.
    count = 0
    for within in all_some(some):
        cases = power(share_of(shares, within), number)
        if (len(some) - len(within)) % 2 == 0:
            count += cases
        else:
            count -= cases
    return count


def all_share(shares, number):
    """In which share of the cases of so many draws all kinds come."""
    check_shares(shares)
    check_draws(number)
    return lowest(just_cases(shares, all_kinds(shares), number), power(sum(shares), number))


def last_share(shares, number):
    """In which share of the cases the draw of this number brings the last kind that was lacking."""
    check_shares(shares)
    check_draws(number)
    if number == 0:
        return (0, 1)
    return lessened(all_share(shares, number), all_share(shares, number - 1))


def lacking(shares, number):
    """The mean of how many kinds are lacking behind so many draws."""
    check_shares(shares)
    check_draws(number)
    cases = sum([power(sum(shares) - share, number) for share in shares])
    return lowest(cases, power(sum(shares), number))


def mean_all(shares):
    """The mean number of draws until all kinds have come."""
    check_shares(shares)
    # Until the first of some kinds comes, the mean is the total divided by their shares. The greatest of some numbers
    # is each of them together, less the least of each two, with the least of each three put in again, and so on.
    mean = (0, 1)
    for some in all_some(all_kinds(shares)):
        if len(some) % 2 == 1:
            mean = added(mean, lowest(sum(shares), share_of(shares, some)))
        elif len(some) > 0:
            mean = lessened(mean, lowest(sum(shares), share_of(shares, some)))
    return mean
