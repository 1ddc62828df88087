"""Several gatherers: each for itself, all together, or the second one by what the first one gives."""

from kindsgathered.coming import mean_all
from kindsgathered.errors import TooMany
from kindsgathered.fractions import NOUGHT, mean_led
from kindsgathered.needs import all_left, mean_needs, needed_ways
from kindsgathered.papers import others_left
from kindsgathered.shares import all_kinds, all_some, check_shares, share_of
from kindsgathered.whole import check_whole_within

MOST_BY_ROUNDS = 2
MOST_TOGETHER = 3
MOST_KINDS_OF_SEVERAL = 3


def check_few_kinds(shares):
    """Refuse shares of more kinds than several gatherers may have."""
    if len(shares) > MOST_KINDS_OF_SEVERAL:
        raise TooMany("these kinds are too many for several gatherers")


def draw_ways(shares, left):
    """In how many cases a draw leaves which kinds of those that are left."""
    ways = [(shares[kind], others_left(left, kind)) for kind in left]
    return ways + [(sum(shares) - share_of(shares, left), left)]


def round_ways(shares, one, other, means):
    """In how many cases a round leads on from what is left to the one and to the other, and the mean from there."""
    ways = []
    for one_cases, one_left in draw_ways(shares, one):
        for other_cases, other_left in draw_ways(shares, other):
            if (one_left, other_left) != (one, other):
                ways.append((one_cases * other_cases, means[(one_left, other_left)]))
    return ways


def two_rounds_mean(shares):
    """The mean number of rounds until each of two gatherers has all kinds."""
    sets = all_some(all_kinds(shares))
    means = {((), ()): NOUGHT}
    for one in sets:
        for other in sets:
            if len(one) + len(other) > 0:
                means[(one, other)] = mean_led(sum(shares) * sum(shares), round_ways(shares, one, other, means))
    return means[(all_kinds(shares), all_kinds(shares))]


def rounds_mean(shares, many):
    """The mean number of rounds until each of so many gatherers has all kinds."""
    check_shares(shares)
    check_whole_within(many, 1, MOST_BY_ROUNDS)
    check_few_kinds(shares)
    if many == 1:
        return mean_all(shares)
    return two_rounds_mean(shares)


def together_mean(shares, many):
    """The mean number of draws until each kind has come so often as there are gatherers."""
    check_shares(shares)
    check_whole_within(many, 1, MOST_TOGETHER)
    check_few_kinds(shares)
    return mean_needs(shares, tuple([many for share in shares]))


def given_mean(shares, worths):
    """The mean of what the end is worth, by how many kinds the second gatherer then lacks."""
    # Of each kind two are looked for: the first gatherer keeps one, the second one is given the next. So a kind of
    # which 2 are left lacks with both, and one of which 1 is left with the second one alone.
    means = {}
    for left in all_left(tuple([2 for share in shares])):
        if 2 in left:
            means[left] = mean_led(0, needed_ways(shares, left, means))
        else:
            means[left] = (worths[left.count(1)], 1)
    return means[tuple([2 for share in shares])]


def given_lacking(shares):
    """The mean number of kinds that the second gatherer lacks when the first one has all."""
    check_shares(shares)
    return given_mean(shares, list(range(len(shares) + 1)))


def given_share(shares):
    """In which share of the cases the second gatherer lacks one kind alone when the first one has all."""
    check_shares(shares)
    return given_mean(shares, [0, 1] + [0 for share in shares])
