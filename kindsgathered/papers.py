"""Papers by who is left: a dict that has a fraction for each some kinds."""

from kindsgathered.fractions import NOUGHT, is_fraction, is_less, mean_led
from kindsgathered.shares import all_kinds, all_some, check_shares, is_some_kinds


def is_paper_number(thing):
    """Whether a thing of whatever kind is a fraction from nought on."""
    return is_fraction(thing) and not is_less(thing, NOUGHT)


def is_by_some_kinds(thing, shares, least):
    """Whether a thing of whatever kind is a dict that has something for each some kinds, so many or more, alone."""
    wanted = [some for some in all_some(all_kinds(shares)) if len(some) >= least]
    if not isinstance(thing, dict) or len(thing) != len(wanted):
        return False
    # The keys themselves are seen, not looked up: to a dict the key (True,) is the same as (1,).
    return all([is_some_kinds(key, shares) and len(key) >= least for key in thing])


def is_paper(thing, shares):
    """Whether a thing of whatever kind is a paper of these shares."""
    if not is_by_some_kinds(thing, shares, 0):
        return False
    return all([is_paper_number(number) for number in thing.values()]) and thing[()] == NOUGHT


def some_left(shares):
    """Each some kinds that may be left, one or more; each stands behind all that are within it."""
    return [left for left in all_some(all_kinds(shares)) if len(left) > 0]


def others_left(left, kind):
    """The kinds that are left but for one."""
    return tuple([other for other in left if other != kind])


def due_number(paper, shares, left):
    """The number that is due of some kinds that are left, by the paper's numbers of fewer."""
    return mean_led(sum(shares), [(shares[kind], paper[others_left(left, kind)]) for kind in left])


def is_time_paper(thing, shares):
    """Whether a thing of whatever kind is a time paper of these shares."""
    check_shares(shares)
    if not is_paper(thing, shares):
        return False
    return all([thing[left] == due_number(thing, shares, left) for left in some_left(shares)])


def time_paper(shares):
    """The time paper: of each some kinds that are left the mean number of draws until all have come."""
    check_shares(shares)
    paper = {(): NOUGHT}
    for left in some_left(shares):
        paper[left] = due_number(paper, shares, left)
    return paper


def over_bound(thing, shares):
    """The bound of a thing of whatever kind where it is an over paper, else None."""
    check_shares(shares)
    if not is_paper(thing, shares):
        return None
    if any([is_less(thing[left], due_number(thing, shares, left)) for left in some_left(shares)]):
        return None
    return thing[all_kinds(shares)]


def under_bound(thing, shares):
    """The bound of a thing of whatever kind where it is an under paper, else None."""
    check_shares(shares)
    if not is_paper(thing, shares):
        return None
    if any([is_less(due_number(thing, shares, left), thing[left]) for left in some_left(shares)]):
        return None
    return thing[all_kinds(shares)]
