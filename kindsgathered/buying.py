"""Bought or drawn: a draw costs 1, and whoever has had enough buys all kinds that are left, each at a price."""

from kindsgathered.errors import NoPlan
from kindsgathered.fractions import NOUGHT, is_less
from kindsgathered.papers import due_number, is_by_some_kinds, is_paper, some_left
from kindsgathered.shares import all_kinds, check_shares
from kindsgathered.whole import check_whole_within

MOST_PRICE = 99


def check_price(price):
    """Refuse what is no price."""
    check_whole_within(price, 0, MOST_PRICE)


def is_plan(thing, shares):
    """Whether a thing of whatever kind is a plan of these shares."""
    check_shares(shares)
    if not is_by_some_kinds(thing, shares, 1):
        return False
    return all([word in ("draw", "buy") for word in thing.values()])


def bought(price, left):
    """What it costs to buy all kinds that are left."""
    return (price * len(left), 1)


def plan_cost(shares, price, plan):
    """The mean cost of a plan, until nothing is left."""
    check_shares(shares)
    check_price(price)
    if not is_plan(plan, shares):
        raise NoPlan("this is not a plan of the shares")
    costs = {(): NOUGHT}
    for left in some_left(shares):
        if plan[left] == "buy":
            costs[left] = bought(price, left)
        else:
            costs[left] = due_number(costs, shares, left)
    return costs[all_kinds(shares)]


def is_buying_due(paper, shares, price, left):
    """Whether buying costs no more than the due number by the paper."""
    return not is_less(due_number(paper, shares, left), bought(price, left))


def least_cost(paper, shares, price, left):
    """The lesser of what buying costs and of the due number by the paper."""
    if is_buying_due(paper, shares, price, left):
        return bought(price, left)
    return due_number(paper, shares, left)


def is_cost_paper(thing, shares, price):
    """Whether a thing of whatever kind is a cost paper of these shares and this price."""
    check_shares(shares)
    check_price(price)
    if not is_paper(thing, shares):
        return False
    return all([thing[left] == least_cost(thing, shares, price, left) for left in some_left(shares)])


def cost_paper(shares, price):
    """The cost paper: of each some kinds that are left the least mean cost."""
    check_shares(shares)
    check_price(price)
    paper = {(): NOUGHT}
    for left in some_left(shares):
        paper[left] = least_cost(paper, shares, price, left)
    return paper


def plan_for(shares, price):
    """The plan that buys just where this costs no more than the due number of the cost paper."""
    check_shares(shares)
    check_price(price)
    paper = cost_paper(shares, price)
    plan = {}
    for left in some_left(shares):
        if is_buying_due(paper, shares, price, left):
            plan[left] = "buy"
        else:
            plan[left] = "draw"
    return plan
