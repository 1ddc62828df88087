"""In what order the kinds first come, and how long until some come, or come twice."""

from kindsgathered.coming import check_draws
from kindsgathered.fractions import NOUGHT, added, lowest, multiplied
from kindsgathered.needs import mean_until
from kindsgathered.shares import all_kinds, all_some, check_order, check_shares, check_unlike_kinds, share_of
from kindsgathered.whole import check_whole_within, power


def order_chance(shares, order):
    """In which share of the cases, drawn until all have come, the kinds first come in this order."""
    check_shares(shares)
    check_order(order, shares)
    chance = (1, 1)
    for at, kind in enumerate(order):
        # Draws that bring what has come already change nothing, so only those that are left are weighed.
        chance = multiplied(chance, lowest(shares[kind], share_of(shares, order[at:])))
    return chance


def all_orders(kinds):
    """Each order of these kinds."""
    orders = [()]
    for kind in kinds:
        orders = [order[:at] + (kind,) + order[at:] for order in orders for at in range(len(order) + 1)]
    return orders


def last_chances(shares):
    """For each kind, in which share of the cases it is the last to come."""
    check_shares(shares)
    chances = [NOUGHT for share in shares]
    for order in all_orders(all_kinds(shares)):
        last = order[-1]
        chances[last] = added(chances[last], order_chance(shares, order))
    return tuple(chances)


def ahead_chance(shares, one, other):
    """In which share of the cases the one first comes ahead of the other."""
    check_shares(shares)
    check_unlike_kinds(one, other, shares)
    return lowest(shares[one], shares[one] + shares[other])


def once_each_cases(shares, some):
    """In how many cases of as many draws as there are of some kinds each of them comes once."""
    cases = 1
    for at, kind in enumerate(some):
        # The kind may stand at each place among those so far: ahead of all, between two, behind all.
        cases *= shares[kind] * (at + 1)
    return cases


def unlike_share(shares, number):
    """In which share of the cases of so many draws no kind comes twice."""
    check_shares(shares)
    check_draws(number)
    found = [some for some in all_some(all_kinds(shares)) if len(some) == number]
    return lowest(sum([once_each_cases(shares, some) for some in found]), power(sum(shares), number))


def twice_mean(shares):
    """The mean number of draws until some kind has come twice."""
    check_shares(shares)
    return mean_until(shares, tuple([2 for share in shares]), 1)


def mean_kinds(shares, number):
    """The mean number of draws until so many kinds, whichever, have come."""
    check_shares(shares)
    check_whole_within(number, 0, len(shares))
    return mean_until(shares, tuple([1 for share in shares]), number)
