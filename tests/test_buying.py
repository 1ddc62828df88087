"""[81], [82], [83], [84], and [2], [3], [4], [5], [6] as far as they reach buying."""

import itertools
import unittest
from fractions import Fraction

from kindsgathered.buying import cost_paper, is_cost_paper, is_plan, plan_cost, plan_for
from kindsgathered.coming import mean_all
from kindsgathered.errors import NoNumber, NoPlan, NoShares
from kindsgathered.fractions import added, is_fraction, is_less, lessened
from kindsgathered.papers import is_time_paper, time_paper
from tests.things import (
    BIG, KEYS_WITH_A_TRUTH, NEVER, NOT_SHARES, SHARES, all_kinds, all_some, assert_refused, assert_told, due, lefts, pair,
    put, renamed, without, without_kind)

PRICES = range(100)

SOME_PRICES = (0, 1, 2, 3, 4, 5, 7, 10, 20, 50, 99)

NOT_PRICES = NEVER + [-1, -99, 100, 101, 1000, BIG, -BIG, (), (0,), (5,), (5, 1), (0, 1)]

TWO = (1, 2)

THREE = (3, 1, 1)

# Reckoned by hand: just kind 1 alone and kind 2 alone are bought at 4, less than the 5 draws that each would take.
OF_THREE_AT_4 = {
    (): (0, 1), (0,): (5, 3), (1,): (4, 1), (2,): (4, 1), (0, 1): (14, 3), (0, 2): (14, 3), (1, 2): (13, 2),
    (0, 1, 2): (203, 30),
}

PLAN_OF_THREE_AT_4 = {
    (0,): "draw", (1,): "buy", (2,): "buy", (0, 1): "draw", (0, 2): "draw", (1, 2): "draw", (0, 1, 2): "draw"}

NOT_WORDS = [
    None, True, False, 0, 1, -1, BIG, "", "Draw", "DRAW", "BUY", "draw ", " draw", "buy ", "bought", "drawbuy", "d", "none",
    ("draw",), ["draw"], ["buy"], {}, {"buy": "buy"}, (), [], ("draw", "buy"), (0, 1),
]

# None of these is some kinds of THREE.
NOT_KEYS = [
    None, True, False, 0, 1, -1, BIG, "", "0", "draw", "buy", (3,), (-1,), (0, 3), (1, 0), (2, 1, 0), (0, 0), (0, 1, 2, 3),
    (None,), ("0",), ((),), ((0,),), (0, (1,)), (0, "1"), (0, None), (BIG,),
]

NOT_NUMBERS = NEVER + [
    0, 1, 5, -1, BIG, (-1, 1), (-5, 3), (2, 4), (0, 2), (10, 2), (0, 0), (5, 0), (5, -1), (1,), (5, 1, 1), (), [5, 1],
    (5, True), (True, 1), (False, 1), (5, "1"), "5/1", ((5, 1), 1),
]


def all_plans(shares):
    keys = lefts(shares)
    return [dict(zip(keys, words)) for words in itertools.product(("draw", "buy"), repeat=len(keys))]


def cost_led_on(shares, price, plan):
    """The mean cost of a plan, led on from the beginning by in which share of the cases just these are left."""
    chances = {left: Fraction(0) for left in all_some(shares)}
    chances[all_kinds(shares)] = Fraction(1)
    cost = Fraction(0)
    for left in reversed(lefts(shares)):
        if plan[left] == "buy":
            cost += chances[left] * price * len(left)
        else:
            weight = sum(shares[kind] for kind in left)
            cost += chances[left] * Fraction(sum(shares), weight)
            for kind in left:
                chances[without_kind(left, kind)] += chances[left] * Fraction(shares[kind], weight)
    return cost


class IsPlan(unittest.TestCase):

    def assert_none(self, thing, shares=THREE):
        assert_told(self, False, is_plan, thing, shares)
        assert_refused(self, NoPlan, plan_cost, shares, 4, thing)

    def test_right_ones(self):
        for shares in ((4,), TWO, THREE):
            for plan in all_plans(shares):
                assert_told(self, True, is_plan, plan, shares)
        for shares in SHARES:
            for word in ("draw", "buy"):
                assert_told(self, True, is_plan, {left: word for left in lefts(shares)}, shares)

    def test_in_whatever_order(self):
        for order in (sorted(PLAN_OF_THREE_AT_4), sorted(PLAN_OF_THREE_AT_4, reverse=True)):
            plan = {key: PLAN_OF_THREE_AT_4[key] for key in order}
            assert_told(self, True, is_plan, plan, THREE)
            assert_told(self, (203, 30), plan_cost, THREE, 4, plan)

    def test_none_of_them_in_a_plan(self):
        for shares in SHARES:
            for word in ("draw", "buy", "none", None):
                self.assert_none({some: word for some in all_some(shares)}, shares)
            plan = plan_for(shares, 4)
            for key in plan:
                self.assert_none(renamed(plan, key, ()), shares)

    def test_some_kinds_left_out(self):
        for shares in SHARES:
            plan = plan_for(shares, 4)
            for key in plan:
                self.assert_none(without(plan, key), shares)

    def test_some_put_in(self):
        for key in NOT_KEYS:
            for word in ("draw", "buy", None):
                self.assert_none(put(PLAN_OF_THREE_AT_4, key, word))
        for shares in SHARES:
            self.assert_none(put(plan_for(shares, 4), (len(shares),), "draw"), shares)

    def test_another_key_in_the_place_of_one(self):
        for key in PLAN_OF_THREE_AT_4:
            for other in NOT_KEYS:
                self.assert_none(renamed(PLAN_OF_THREE_AT_4, key, other))

    def test_another_word(self):
        for key in PLAN_OF_THREE_AT_4:
            for word in NOT_WORDS:
                self.assert_none(put(PLAN_OF_THREE_AT_4, key, word))

    def test_a_truth_in_a_kinds_place(self):
        for key, other in KEYS_WITH_A_TRUTH:
            plan = renamed(PLAN_OF_THREE_AT_4, key, other)
            # To Python the two are the same, so only what is seen of the keys themselves tells.
            self.assertEqual(plan, PLAN_OF_THREE_AT_4)
            self.assert_none(plan)
        self.assert_none({(False,): "draw"}, (4,))

    def test_things_of_whatever_kind(self):
        things = NEVER + SHARES + [
            0, 1, BIG, (), "draw", "buy", [PLAN_OF_THREE_AT_4], (PLAN_OF_THREE_AT_4,), list(PLAN_OF_THREE_AT_4.items()),
            list(PLAN_OF_THREE_AT_4), {"draw": "buy"}, {(0,): PLAN_OF_THREE_AT_4}, time_paper(THREE), OF_THREE_AT_4,
            dict(enumerate(PLAN_OF_THREE_AT_4.values())),
        ]
        for thing in things:
            for shares in ((1,), TWO, THREE, (1, 2, 3, 4, 5)):
                self.assert_none(thing, shares)

    def test_of_other_kinds(self):
        for shares, other in itertools.product(SHARES, repeat=2):
            assert_told(self, len(shares) == len(other), is_plan, plan_for(shares, 3), other)

    def test_no_shares(self):
        for thing in NOT_SHARES:
            for plan in (PLAN_OF_THREE_AT_4, {}, {(0,): "buy"}, None, True, [], thing):
                assert_refused(self, NoShares, is_plan, plan, thing)


class PlanCost(unittest.TestCase):

    def test_written_out(self):
        assert_told(self, (1, 1), plan_cost, (5,), 7, {(0,): "draw"})
        assert_told(self, (7, 1), plan_cost, (5,), 7, {(0,): "buy"})
        assert_told(self, (0, 1), plan_cost, (5,), 0, {(0,): "buy"})
        # A draw, and then the other one is bought.
        assert_told(self, (8, 1), plan_cost, TWO, 7, {(0,): "buy", (1,): "buy", (0, 1): "draw"})
        # A draw; in 1 of 3 cases kind 1 is left and drawn, 3/2; in the others kind 0 is left and bought, 2.
        assert_told(self, (17, 6), plan_cost, TWO, 2, {(0,): "buy", (1,): "draw", (0, 1): "draw"})
        assert_told(self, (203, 30), plan_cost, THREE, 4, PLAN_OF_THREE_AT_4)

    def test_drawing_alone_costs_the_mean(self):
        for shares in SHARES:
            plan = {left: "draw" for left in lefts(shares)}
            for price in (0, 1, 99):
                assert_told(self, mean_all(shares), plan_cost, shares, price, plan)

    def test_buying_at_once_costs_the_price_of_all(self):
        for shares in SHARES:
            for price in SOME_PRICES:
                for word in ("draw", "buy"):
                    plan = {**{left: word for left in lefts(shares)}, all_kinds(shares): "buy"}
                    assert_told(self, (price * len(shares), 1), plan_cost, shares, price, plan)

    def test_all_plans_led_on_from_the_beginning(self):
        for shares in ((4,), TWO, (9, 1), THREE, (1, 2, 3)):
            for plan in all_plans(shares):
                for price in (0, 1, 2, 4, 99):
                    wanted = pair(cost_led_on(shares, price, plan))
                    self.assertEqual(plan_cost(shares, price, plan), wanted, (shares, price, plan))

    def test_plans_of_more_kinds_led_on(self):
        for shares in SHARES:
            keys = lefts(shares)
            for turn in range(6):
                plan = {key: ("draw", "buy")[(at * 7 + turn) % (turn + 2) == 0] for at, key in enumerate(keys)}
                assert_told(self, pair(cost_led_on(shares, 5, plan)), plan_cost, shares, 5, plan)

    def test_no_number_goes_ahead_of_no_plan(self):
        for price in NOT_PRICES:
            for plan in (PLAN_OF_THREE_AT_4, {}, None, True, [1]):
                assert_refused(self, NoNumber, plan_cost, THREE, price, plan)

    def test_no_shares_goes_ahead_of_all_else(self):
        for thing in NOT_SHARES:
            for price, plan in itertools.product((0, 4, 100, True, None), (PLAN_OF_THREE_AT_4, {}, None)):
                assert_refused(self, NoShares, plan_cost, thing, price, plan)


class CostPaper(unittest.TestCase):

    def test_written_out(self):
        self.assertEqual(cost_paper((5,), 0), {(): (0, 1), (0,): (0, 1)})
        self.assertEqual(cost_paper((5,), 1), {(): (0, 1), (0,): (1, 1)})
        self.assertEqual(cost_paper((5,), 2), {(): (0, 1), (0,): (1, 1)})
        self.assertEqual(cost_paper(TWO, 2), {(): (0, 1), (0,): (2, 1), (1,): (3, 2), (0, 1): (17, 6)})
        self.assertEqual(cost_paper(THREE, 4), OF_THREE_AT_4)

    def test_a_price_of_0_costs_nothing(self):
        for shares in SHARES:
            self.assertEqual(cost_paper(shares, 0), {some: (0, 1) for some in all_some(shares)})

    def test_a_fraction_for_each_some_kinds_and_for_nothing_else(self):
        for shares in SHARES:
            for price in SOME_PRICES:
                paper = cost_paper(shares, price)
                self.assertIs(paper.__class__, dict)
                self.assertEqual(sorted(map(repr, paper)), sorted(map(repr, all_some(shares))))
                self.assertTrue(all(is_fraction(number) for number in paper.values()))
                self.assertEqual(repr(paper[()]), "(0, 1)")

    def test_each_number_is_the_lesser_of_two(self):
        for shares in SHARES:
            for price in PRICES:
                paper = cost_paper(shares, price)
                for left in lefts(shares):
                    wanted = min(Fraction(price * len(left)), due(paper, shares, left))
                    self.assertEqual(Fraction(*paper[left]), wanted)

    def test_no_plan_costs_less(self):
        for shares in ((4,), TWO, (9, 1), (1, 1), THREE, (1, 2, 3)):
            for price in SOME_PRICES:
                least = min(cost_led_on(shares, price, plan) for plan in all_plans(shares))
                self.assertEqual(cost_paper(shares, price)[all_kinds(shares)], pair(least))

    def test_a_greater_price_costs_no_less(self):
        for shares in SHARES:
            for price in range(99):
                less, more = cost_paper(shares, price), cost_paper(shares, price + 1)
                for left in lefts(shares):
                    self.assertFalse(is_less(more[left], less[left]))

    def test_where_the_price_is_too_great_all_is_drawn(self):
        for shares in SHARES:
            if min(shares) * 99 >= sum(shares):
                self.assertEqual(cost_paper(shares, 99), time_paper(shares))

    def test_it_is_new_and_the_askers_own(self):
        for shares in SHARES:
            told, other, wanted = cost_paper(shares, 4), cost_paper(shares, 4), repr(cost_paper(shares, 4))
            self.assertIsNot(told, other)
            told[all_kinds(shares)] = (1, 7)
            del told[()]
            self.assertEqual(repr(other), wanted)
            self.assertTrue(is_cost_paper(other, shares, 4))
            self.assertFalse(is_cost_paper(told, shares, 4))
            other.clear()
            self.assertEqual(repr(cost_paper(shares, 4)), wanted)


class IsCostPaper(unittest.TestCase):

    def assert_none(self, thing, shares=THREE, price=4):
        assert_told(self, False, is_cost_paper, thing, shares, price)

    def test_right_ones(self):
        for shares in SHARES:
            for price in PRICES:
                self.assertIs(is_cost_paper(cost_paper(shares, price), shares, price), True)
        for order in (sorted(OF_THREE_AT_4), sorted(OF_THREE_AT_4, reverse=True)):
            assert_told(self, True, is_cost_paper, {key: OF_THREE_AT_4[key] for key in order}, THREE, 4)

    def test_of_another_price_or_other_shares(self):
        for price in PRICES:
            same = cost_paper(THREE, price) == OF_THREE_AT_4
            assert_told(self, same, is_cost_paper, OF_THREE_AT_4, THREE, price)
            self.assertEqual(same, price == 4)
        for shares in SHARES:
            assert_told(self, shares == THREE, is_cost_paper, OF_THREE_AT_4, shares, 4)

    def test_a_time_paper_only_where_nothing_is_bought(self):
        for shares in SHARES:
            for price in SOME_PRICES:
                wanted = is_time_paper(cost_paper(shares, price), shares)
                assert_told(self, wanted, is_cost_paper, time_paper(shares), shares, price)

    def test_a_number_more_or_less(self):
        for shares in SHARES:
            for price in (0, 2, 4, 99):
                paper = cost_paper(shares, price)
                for key in paper:
                    for step in ((1, 1), (1, BIG)):
                        self.assert_none(put(paper, key, added(paper[key], step)), shares, price)
                        self.assert_none(put(paper, key, lessened(paper[key], step)), shares, price)

    def test_the_greater_of_the_two(self):
        for left in lefts(THREE):
            for number in ((4 * len(left), 1), pair(due(OF_THREE_AT_4, THREE, left))):
                wanted = number == OF_THREE_AT_4[left]
                assert_told(self, wanted, is_cost_paper, put(OF_THREE_AT_4, left, number), THREE, 4)

    def test_wrong_numbers_at_each_key(self):
        for key in OF_THREE_AT_4:
            for wrong in NOT_NUMBERS:
                self.assert_none(put(OF_THREE_AT_4, key, wrong))
        for shares in SHARES:
            paper = cost_paper(shares, 3)
            for key, (top, bottom) in paper.items():
                self.assert_none(put(paper, key, (top * 2, bottom * 2)), shares, 3)
                self.assert_none(put(paper, key, [top, bottom]), shares, 3)
                if bottom == 1:
                    self.assert_none(put(paper, key, top), shares, 3)
                    self.assert_none(put(paper, key, (top, True)), shares, 3)

    def test_a_truth_in_the_place_of_a_number(self):
        for wrong in (1, True, (True, 1), (1, True), (True, True)):
            self.assert_none({(): (0, 1), (0,): wrong}, (1,), 1)
        for wrong in (0, False, (False, 1), (0, True), (False, True)):
            self.assert_none({(): wrong, (0,): (1, 1)}, (1,), 1)
            self.assert_none({(): (0, 1), (0,): wrong}, (1,), 0)

    def test_keys_left_out_put_in_or_another(self):
        for key in OF_THREE_AT_4:
            self.assert_none(without(OF_THREE_AT_4, key))
            for other in NOT_KEYS:
                self.assert_none(renamed(OF_THREE_AT_4, key, other))
        for other in NOT_KEYS:
            self.assert_none(put(OF_THREE_AT_4, other, (0, 1)))

    def test_a_truth_in_a_kinds_place(self):
        for key, other in KEYS_WITH_A_TRUTH:
            paper = renamed(OF_THREE_AT_4, key, other)
            self.assertEqual(paper, OF_THREE_AT_4)
            self.assert_none(paper)

    def test_things_of_whatever_kind(self):
        things = NEVER + SHARES + [
            0, 1, BIG, (), [OF_THREE_AT_4], (OF_THREE_AT_4,), list(OF_THREE_AT_4.items()), list(OF_THREE_AT_4),
            {key: None for key in OF_THREE_AT_4}, {key: [] for key in OF_THREE_AT_4}, PLAN_OF_THREE_AT_4,
        ]
        for thing in things:
            for shares in ((1,), TWO, THREE, (1, 2, 3, 4, 5)):
                for price in (0, 4, 99):
                    self.assert_none(thing, shares, price)

    def test_what_is_done_later_to_what_was_handed_in(self):
        paper = cost_paper(THREE, 4)
        assert_told(self, True, is_cost_paper, paper, THREE, 4)
        paper[(0,)] = (1, 1)
        self.assert_none(paper)
        self.assertEqual(cost_paper(THREE, 4), OF_THREE_AT_4)

    def test_no_shares_then_no_number(self):
        for thing in NOT_SHARES:
            for paper, price in itertools.product((OF_THREE_AT_4, {}, None, True), (4, 100, -1, False)):
                assert_refused(self, NoShares, is_cost_paper, paper, thing, price)
        for price in NOT_PRICES:
            for paper in (OF_THREE_AT_4, {}, None, True, price):
                assert_refused(self, NoNumber, is_cost_paper, paper, THREE, price)


class PlanFor(unittest.TestCase):

    def test_written_out(self):
        self.assertEqual(plan_for((5,), 0), {(0,): "buy"})
        # Where both cost the same, it buys.
        self.assertEqual(plan_for((5,), 1), {(0,): "buy"})
        self.assertEqual(plan_for((5,), 2), {(0,): "draw"})
        self.assertEqual(plan_for(TWO, 2), {(0,): "buy", (1,): "draw", (0, 1): "draw"})
        self.assertEqual(plan_for(THREE, 4), PLAN_OF_THREE_AT_4)
        self.assertEqual(plan_for(THREE, 5)[(1,)], "buy")
        self.assertEqual(plan_for(THREE, 6)[(1,)], "draw")

    def test_buys_just_where_it_is_no_greater_than_the_due_number(self):
        for shares in SHARES:
            for price in PRICES:
                paper, plan = cost_paper(shares, price), plan_for(shares, price)
                for left in lefts(shares):
                    buys = price * len(left) <= due(paper, shares, left)
                    self.assertEqual(plan[left], "buy" if buys else "draw")

    def test_it_is_a_plan(self):
        for shares in SHARES:
            for price in SOME_PRICES:
                plan = plan_for(shares, price)
                self.assertIs(plan.__class__, dict)
                self.assertEqual(sorted(map(repr, plan)), sorted(map(repr, lefts(shares))))
                assert_told(self, True, is_plan, plan, shares)

    def test_it_costs_what_the_cost_paper_tells(self):
        for shares in SHARES:
            for price in PRICES:
                told = cost_paper(shares, price)[all_kinds(shares)]
                self.assertEqual(plan_cost(shares, price, plan_for(shares, price)), told)

    def test_it_is_new_and_the_askers_own(self):
        for shares in SHARES:
            told, other, wanted = plan_for(shares, 4), plan_for(shares, 4), repr(plan_for(shares, 4))
            self.assertIsNot(told, other)
            told[all_kinds(shares)] = "none"
            self.assertEqual(repr(other), wanted)
            other.clear()
            self.assertEqual(repr(plan_for(shares, 4)), wanted)


class ByPrice(unittest.TestCase):

    def test_no_shares_then_no_number(self):
        for function in (cost_paper, plan_for):
            for thing in NOT_SHARES:
                for price in (0, 4, 100, -1, True, None, thing):
                    assert_refused(self, NoShares, function, thing, price)
            for price in NOT_PRICES:
                for shares in SHARES[:7]:
                    assert_refused(self, NoNumber, function, shares, price)


if __name__ == "__main__":
    unittest.main()
