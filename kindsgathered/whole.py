"""Whole numbers, as all other modules ask for them."""


def is_whole(thing):
    """Whether a thing of whatever kind is a whole number."""
    # To Python True and False are integers, but here a truth is no number.
    return isinstance(thing, int) and not isinstance(thing, bool)


def is_whole_within(thing, least, most):
    """Whether a thing of whatever kind is a whole number from least to most."""
    return is_whole(thing) and least <= thing <= most
