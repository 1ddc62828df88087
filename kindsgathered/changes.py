"""Shares changed: kinds joined and parted, a share moved, kinds named otherwise."""

from kindsgathered.coming import mean_all
from kindsgathered.errors import NoNumber, TooMany
from kindsgathered.fractions import is_less
from kindsgathered.shares import MOST_KINDS, MOST_SHARE, check_kind, check_order, check_shares, check_unlike_kinds
from kindsgathered.whole import check_whole_within


def with_share(shares, kind, share):
    """The shares with another share for one kind."""
    return shares[:kind] + (share,) + shares[kind + 1:]


def joined(shares, one, other):
    """The shares with two kinds joined into the lesser one."""
    check_shares(shares)
    check_unlike_kinds(one, other, shares)
    both = shares[one] + shares[other]
    if both > MOST_SHARE:
        raise TooMany("both shares together are too many")
    lesser, greater = min(one, other), max(one, other)
    return with_share(shares[:greater] + shares[greater + 1:], lesser, both)


def parted(shares, kind, number):
    """The shares with one kind parted: it keeps the number, and the rest is the share of a new last kind."""
    check_shares(shares)
    check_kind(kind, shares)
    check_whole_within(number, 1, shares[kind] - 1)
    if len(shares) == MOST_KINDS:
        raise TooMany("there are as many kinds as there may be")
    return with_share(shares, kind, number) + (shares[kind] - number,)


def evened(shares, one, other):
    """The shares with a share of 1 moved from the one kind to the other."""
    check_shares(shares)
    check_unlike_kinds(one, other, shares)
    if shares[one] < shares[other] + 2:
        raise NoNumber("the one share is not greater by 2 or more")
    return with_share(with_share(shares, one, shares[one] - 1), other, shares[other] + 1)


def named(shares, order):
    """The shares with kind k being the one that stands at place k of the order."""
    check_shares(shares)
    check_order(order, shares)
    return tuple([shares[kind] for kind in order])


def is_quicker(shares, other):
    """Whether the one shares take less in the mean than the other ones until all kinds have come."""
    check_shares(shares)
    check_shares(other)
    return is_less(mean_all(shares), mean_all(other))
