"""Whole numbers, as all other modules ask for them."""

from kindsgathered.errors import NoNumber


def is_whole(thing):
    """Whether a thing of whatever kind is a whole number."""
    # To Python True and False are integers, but here a truth is no number.
    return isinstance(thing, int) and not isinstance(thing, bool)


def is_whole_within(thing, least, most):
    """Whether a thing of whatever kind is a whole number from least to most."""
    return is_whole(thing) and least <= thing <= most


def check_whole_within(thing, least, most):
    """Refuse what is no whole number from least to most."""
    if not is_whole_within(thing, least, most):
        raise NoNumber("this is not a whole number within its bounds")


def power(base, many):
    """The base so many times multiplied by itself; 1 where many is 0, also of 0."""
    product = 1
    for step in range(many):
        product *= base
    return product
