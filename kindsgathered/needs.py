"""Needs: how often each kind is to come, and how long it takes until it has."""

from kindsgathered.errors import NoNeeds, TooMany
from kindsgathered.fractions import NOUGHT, lowest, mean_led
from kindsgathered.shares import all_kinds, check_shares
from kindsgathered.whole import check_whole_within, is_whole_within, power

MOST_NEED = 3
MOST_MULTIPLIED = 64
MOST_DRAWS_OF_NEEDS = 8


def are_needs(thing, shares):
    """Whether a thing of whatever kind is needs of these shares, be they too many or not."""
    check_shares(shares)
    if not isinstance(thing, tuple) or len(thing) != len(shares):
        return False
    return all([is_whole_within(need, 0, MOST_NEED) for need in thing])


def check_needs(thing, shares):
    """Refuse what is no needs of these shares."""
    if not are_needs(thing, shares):
        raise NoNeeds("this is not needs of the shares")


def check_not_too_many(needs):
    """Refuse needs that are more than is taken."""
    together = 1
    for need in needs:
        together *= need + 1
    if together > MOST_MULTIPLIED:
        raise TooMany("these needs are too many")


def all_left(needs):
    """Each tuple of how often the kinds may still be needed; each stands behind all that draws make of it."""
    found = [()]
    for need in needs:
        found = [left + (often,) for left in found for often in range(need + 1)]
    return found


def left_behind(left, kind):
    """What is left of the needs when a kind is drawn; more than is needed changes nothing."""
    often = max(left[kind] - 1, 0)
    return left[:kind] + (often,) + left[kind + 1:]


def needed_ways(shares, left, means):
    """Of each kind that is still needed, its share and the mean that belongs to what it leaves."""
    return [(shares[kind], means[left_behind(left, kind)]) for kind in all_kinds(shares) if left[kind] > 0]


def mean_until(shares, needs, many):
    """The mean number of draws until so many kinds, whichever, have come so often as needed."""
    means = {}
    for left in all_left(needs):
        if left.count(0) >= many:
            means[left] = NOUGHT
        else:
            means[left] = mean_led(sum(shares), needed_ways(shares, left, means))
    return means[needs]


def mean_needs(shares, needs):
    """The mean number of draws until each kind has come so often as needed."""
    check_shares(shares)
    check_needs(needs, shares)
    check_not_too_many(needs)
    return mean_until(shares, needs, len(shares))


def mean_any(shares, needs):
    """The mean number of draws until some kind has come so often as needed, whichever."""
    check_shares(shares)
    check_needs(needs, shares)
    check_not_too_many(needs)
    return mean_until(shares, needs, 1)


def cases_behind(shares, cases):
    """For each tuple of what is left, in how many cases it is so behind one more draw."""
    behind = {left: 0 for left in cases}
    for left in cases:
        for kind in all_kinds(shares):
            behind[left_behind(left, kind)] += shares[kind] * cases[left]
    return behind


def met_share(shares, needs, number):
    """In which share of the cases of so many draws each kind comes so often as needed."""
    # The cases may be far too many to go through, so they are counted together by what they leave, draw by draw.
    cases = {left: 0 for left in all_left(needs)}
    cases[needs] = 1
    for draw in range(number):
        cases = cases_behind(shares, cases)
    nothing_left = tuple([0 for need in needs])
    return lowest(cases[nothing_left], power(sum(shares), number))


def needs_share(shares, needs, number):
    """In which share of the cases each kind has come so often as needed by so many draws."""
    check_shares(shares)
    check_needs(needs, shares)
    check_whole_within(number, 0, MOST_DRAWS_OF_NEEDS)
    check_not_too_many(needs)
    return met_share(shares, needs, number)
