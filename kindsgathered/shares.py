"""Shares: a tuple that has for each kind in how many cases of a draw it comes."""

from kindsgathered.errors import NoKind, NoShares
from kindsgathered.fractions import lowest
from kindsgathered.whole import is_whole_within

MOST_KINDS = 5
MOST_SHARE = 9


def is_shares(thing):
    """Whether a thing of whatever kind is shares."""
    if not isinstance(thing, tuple) or not 1 <= len(thing) <= MOST_KINDS:
        return False
    return all([is_whole_within(share, 1, MOST_SHARE) for share in thing])


def check_shares(thing):
    """Refuse what is no shares."""
    if not is_shares(thing):
        raise NoShares("this is not shares")


def is_kind(thing, shares):
    """Whether a thing of whatever kind is a kind of these shares."""
    return is_whole_within(thing, 0, len(shares) - 1)


def check_kind(thing, shares):
    """Refuse what is no kind of these shares."""
    if not is_kind(thing, shares):
        raise NoKind("this is not a kind of the shares")


def check_unlike_kinds(one, other, shares):
    """Refuse what are not two unlike kinds of these shares."""
    check_kind(one, shares)
    check_kind(other, shares)
    if other == one:
        raise NoKind("the other kind is the first one")


def is_some_kinds(thing, shares):
    """Whether a thing of whatever kind is some kinds of these shares."""
    if not isinstance(thing, tuple):
        return False
    # All are seen to be numbers before any two are compared: other things may have no order.
    if not all([is_kind(kind, shares) for kind in thing]):
        return False
    return all([one < other for one, other in zip(thing, thing[1:])])


def check_some_kinds(thing, shares):
    """Refuse what is not some kinds of these shares."""
    if not is_some_kinds(thing, shares):
        raise NoKind("this is not some kinds of the shares")


def is_order(thing, shares):
    """Whether a thing of whatever kind is a tuple of all kinds of these shares, each once."""
    if not isinstance(thing, tuple) or not all([is_kind(kind, shares) for kind in thing]):
        return False
    return sorted(thing) == list(range(len(shares)))


def check_order(thing, shares):
    """Refuse what is not a tuple of all kinds of these shares, each once."""
    if not is_order(thing, shares):
        raise NoKind("this is not all kinds of the shares, each once")


def all_kinds(shares):
    """All kinds of these shares."""
    return tuple(range(len(shares)))


def all_some(kinds):
    """Each some kinds of these kinds; each stands behind all that are within it."""
    found = [()]
    for kind in kinds:
        found = found + [some + (kind,) for some in found]
    return found


def share_of(shares, some):
    """In how many cases a draw brings one of some kinds."""
    return sum([shares[kind] for kind in some])


def total(shares):
    """How many cases a draw has."""
    check_shares(shares)
    return sum(shares)


def part(shares, some):
    """The fraction of the total that some kinds have."""
    check_shares(shares)
    check_some_kinds(some, shares)
    return lowest(share_of(shares, some), sum(shares))
