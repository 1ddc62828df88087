"""Fractions: tuples (top, bottom) in lowest terms, the bottom from 1 on."""

from kindsgathered.errors import NoNumber
from kindsgathered.whole import is_whole

NOUGHT = (0, 1)


def greatest_divisor(top, bottom):
    """The greatest whole number that divides both; bottom is from 1 on."""
    one, other = abs(top), bottom
    while other > 0:
        one, other = other, one % other
    return one


def is_fraction(thing):
    """Whether a thing of whatever kind is a fraction."""
    if not isinstance(thing, tuple) or len(thing) != 2:
        return False
    top, bottom = thing
    if not is_whole(top) or not is_whole(bottom) or bottom < 1:
        return False
    return greatest_divisor(top, bottom) == 1


def lowest(top, bottom):
    """The fraction that is top divided by bottom."""
    if not is_whole(top):
        raise NoNumber("the first one is not a whole number")
    if not is_whole(bottom) or bottom < 1:
        raise NoNumber("the other one is not a whole number from 1 on")
    divisor = greatest_divisor(top, bottom)
    return (top // divisor, bottom // divisor)


def check_fractions(one, other):
    """Refuse the first of the two that is no fraction."""
    if not is_fraction(one):
        raise NoNumber("the first one is not a fraction")
    if not is_fraction(other):
        raise NoNumber("the other one is not a fraction")


def added(one, other):
    """The one and the other together."""
    check_fractions(one, other)
    return lowest(one[0] * other[1] + other[0] * one[1], one[1] * other[1])


def lessened(one, other):
    """The one less the other."""
    check_fractions(one, other)
    return lowest(one[0] * other[1] - other[0] * one[1], one[1] * other[1])


def multiplied(one, other):
    """The one times the other."""
    check_fractions(one, other)
    return lowest(one[0] * other[0], one[1] * other[1])


def is_less(one, other):
    """Whether the one is less than the other."""
    check_fractions(one, other)
    return one[0] * other[1] < other[0] * one[1]


def mean_led(cases, ways):
    """The mean number of steps still to come, by where a step leads.

    A step has so many cases; each way is in how many of them it leads on, and the mean from there. In the other cases
    all stays as it is. With 0 for the cases the steps are not counted, and it is the mean of what they lead to.
    """
    together = (cases, 1)
    for many, mean in ways:
        together = added(together, multiplied((many, 1), mean))
    return multiplied(together, lowest(1, sum([many for many, mean in ways])))
