"""[61], [62], [63], [64], [65], and [2], [3], [4], [5] as far as they reach orders."""

import itertools
import math
import unittest
from fractions import Fraction

from kindsgathered.coming import mean_all
from kindsgathered.errors import NoKind, NoNumber, NoShares
from kindsgathered.fractions import added, is_fraction, is_less
from kindsgathered.needs import mean_any
from kindsgathered.orders import ahead_chance, last_chances, mean_kinds, order_chance, twice_mean, unlike_share
from tests.things import (
    BIG, NEVER, NOT_A_KIND_OF_THREE, NOT_DRAWS, NOT_ORDERS_OF_THREE, NOT_SHARES, SHARES, all_some, assert_refused,
    assert_told, pair)

DRAWS = range(13)

SMALL = [(1,), (2,), (1, 1), (2, 1), (1, 1, 1), (1, 2, 1), (1, 1, 1, 1), (2, 1, 1, 1), (1, 1, 1, 1, 1)]


def orders_of(shares):
    return list(itertools.permutations(range(len(shares))))


def together(numbers):
    """All these fractions together."""
    result = (0, 1)
    for number in numbers:
        result = added(result, number)
    return result


def order_by_steps(shares, order):
    """The chance that the next kind to come is the first one, and then those behind it."""
    chance = Fraction(1)
    left = list(shares)
    for kind in order:
        chance *= Fraction(shares[kind], sum(left))
        left[kind] = 0
    return chance


def last_by_ahead(shares, kind):
    """The chance that a kind comes last, by the chances that it comes ahead of some others."""
    chance = Fraction(0)
    for some in all_some(shares):
        if kind not in some:
            chance += (-1) ** len(some) * Fraction(shares[kind], shares[kind] + sum(shares[other] for other in some))
    return chance


def unlike_gone_through(shares, number):
    one_draw = [kind for kind, share in enumerate(shares) for again in range(share)]
    rows = list(itertools.product(one_draw, repeat=number))
    return Fraction(sum(len(set(row)) == len(row) for row in rows), len(rows))


def unlike_by_orders(shares, number):
    rows = itertools.permutations(shares, number)
    return Fraction(sum(math.prod(row) for row in rows), sum(shares) ** number)


def mean_until_kinds(shares, number):
    """The mean until so many kinds have come, by how long just the draws of some kinds last."""
    mean = Fraction(0)
    many = len(shares)
    for some in all_some(shares):
        if len(some) < number:
            others = sum(shares) - sum(shares[kind] for kind in some)
            weight = (-1) ** (number - 1 - len(some)) * math.comb(many - len(some) - 1, many - number)
            mean += weight * Fraction(sum(shares), others)
    return mean


class OrderChance(unittest.TestCase):

    def test_written_out(self):
        assert_told(self, (1, 1), order_chance, (7,), (0,))
        assert_told(self, (1, 2), order_chance, (4, 4), (1, 0))
        assert_told(self, (1, 3), order_chance, (1, 2), (0, 1))
        assert_told(self, (2, 3), order_chance, (1, 2), (1, 0))
        assert_told(self, (3, 10), order_chance, (3, 1, 1), (0, 1, 2))
        assert_told(self, (3, 20), order_chance, (3, 1, 1), (1, 0, 2))
        assert_told(self, (1, 20), order_chance, (3, 1, 1), (2, 1, 0))
        assert_told(self, (1, 15), order_chance, (1, 2, 3), (0, 1, 2))

    def test_each_order(self):
        for shares in SHARES:
            for order in orders_of(shares):
                self.assertEqual(order_chance(shares, order), pair(order_by_steps(shares, order)))

    def test_no_greater_by_the_first_rows(self):
        # Rows of six draws that bring all kinds in this order are among all that do.
        shares = (1, 2, 1)
        one_draw = [kind for kind, share in enumerate(shares) for again in range(share)]
        rows = list(itertools.product(one_draw, repeat=6))
        for order in orders_of(shares):
            found = sum(tuple(dict.fromkeys(row)) == order for row in rows)
            lacking = sum(len(set(row)) < 3 for row in rows)
            chance = Fraction(*order_chance(shares, order))
            self.assertTrue(Fraction(found, len(rows)) <= chance <= Fraction(found + lacking, len(rows)))

    def test_all_orders_come_to_1(self):
        for shares in SHARES:
            self.assertEqual(together(order_chance(shares, order) for order in orders_of(shares)), (1, 1))

    def test_no_kind(self):
        for thing in NOT_ORDERS_OF_THREE:
            assert_refused(self, NoKind, order_chance, (3, 1, 1), thing)

    def test_each_small_tuple_that_is_no_order(self):
        for shares in ((4,), (2, 2), (3, 1, 1)):
            right = orders_of(shares)
            for many in range(5):
                for thing in itertools.product(range(-1, 5), repeat=many):
                    if thing not in right:
                        assert_refused(self, NoKind, order_chance, shares, thing)

    def test_a_kind_left_out_or_twice_or_not_there(self):
        for shares in SHARES:
            for order in orders_of(shares)[:6]:
                assert_refused(self, NoKind, order_chance, shares, order[1:])
                assert_refused(self, NoKind, order_chance, shares, order + order[:1])
                assert_refused(self, NoKind, order_chance, shares, (len(shares),) + order[1:])
                assert_refused(self, NoKind, order_chance, shares, order + (len(shares),))
                assert_refused(self, NoKind, order_chance, shares, list(order))
                assert_refused(self, NoKind, order_chance, shares, order[:-1] + ([order[-1]],))
                turned = tuple(bool(kind) if kind in (0, 1) else kind for kind in order)
                assert_refused(self, NoKind, order_chance, shares, turned)

    def test_no_shares(self):
        for thing in NOT_SHARES:
            for order in ((0, 1, 2), (0,), (), None, True, [0], thing):
                assert_refused(self, NoShares, order_chance, thing, order)


class LastChances(unittest.TestCase):

    def test_written_out(self):
        assert_told(self, ((1, 1),), last_chances, (5,))
        assert_told(self, ((2, 3), (1, 3)), last_chances, (1, 2))
        assert_told(self, ((1, 10), (9, 20), (9, 20)), last_chances, (3, 1, 1))

    def test_even_shares(self):
        for share, many in itertools.product((1, 9), range(1, 6)):
            assert_told(self, ((1, many),) * many, last_chances, (share,) * many)

    def test_by_the_chances_to_come_ahead(self):
        for shares in SHARES:
            wanted = tuple(pair(last_by_ahead(shares, kind)) for kind in range(len(shares)))
            assert_told(self, wanted, last_chances, shares)

    def test_the_orders_that_end_with_a_kind_come_to_it(self):
        for shares in SHARES:
            for kind, chance in enumerate(last_chances(shares)):
                ending = [order for order in orders_of(shares) if order[-1] == kind]
                self.assertEqual(together(order_chance(shares, order) for order in ending), chance)

    def test_a_tuple_of_fractions_that_come_to_1(self):
        for shares in SHARES:
            told = last_chances(shares)
            self.assertIs(told.__class__, tuple)
            self.assertEqual(len(told), len(shares))
            self.assertTrue(all(is_fraction(chance) for chance in told))
            self.assertEqual(together(told), (1, 1))

    def test_no_shares(self):
        for thing in NOT_SHARES:
            assert_refused(self, NoShares, last_chances, thing)


class AheadChance(unittest.TestCase):

    def test_written_out(self):
        assert_told(self, (3, 4), ahead_chance, (3, 1, 1), 0, 1)
        assert_told(self, (1, 4), ahead_chance, (3, 1, 1), 2, 0)
        assert_told(self, (1, 2), ahead_chance, (3, 1, 1), 1, 2)
        assert_told(self, (9, 10), ahead_chance, (1, 9), 1, 0)

    def test_the_orders_in_which_it_is_so_come_to_it(self):
        for shares in SHARES:
            for one, other in itertools.permutations(range(len(shares)), 2):
                found = [order for order in orders_of(shares) if order.index(one) < order.index(other)]
                wanted = together(order_chance(shares, order) for order in found)
                assert_told(self, wanted, ahead_chance, shares, one, other)

    def test_either_way_comes_to_1(self):
        for shares in SHARES:
            for one, other in itertools.combinations(range(len(shares)), 2):
                both = added(ahead_chance(shares, one, other), ahead_chance(shares, other, one))
                self.assertEqual(both, (1, 1))

    def test_no_kind_where_the_second_one_is_the_first_one(self):
        for shares in SHARES:
            for kind in range(len(shares)):
                assert_refused(self, NoKind, ahead_chance, shares, kind, kind)

    def test_no_kind(self):
        for thing in NOT_A_KIND_OF_THREE:
            for kind in (0, 1, 2, thing):
                assert_refused(self, NoKind, ahead_chance, (3, 1, 1), thing, kind)
                assert_refused(self, NoKind, ahead_chance, (3, 1, 1), kind, thing)

    def test_a_kind_that_is_not_there(self):
        for shares in SHARES:
            for wrong in (-1, len(shares), BIG):
                assert_refused(self, NoKind, ahead_chance, shares, 0, wrong)
                assert_refused(self, NoKind, ahead_chance, shares, wrong, 0)

    def test_no_shares(self):
        for thing in NOT_SHARES:
            for one, other in ((0, 1), (0, 0), (None, True), (9, [1]), (thing, thing)):
                assert_refused(self, NoShares, ahead_chance, thing, one, other)


class UnlikeShare(unittest.TestCase):

    def test_written_out(self):
        assert_told(self, (1, 1), unlike_share, (4,), 0)
        assert_told(self, (1, 1), unlike_share, (4,), 1)
        assert_told(self, (0, 1), unlike_share, (4,), 2)
        assert_told(self, (1, 2), unlike_share, (1, 1), 2)
        assert_told(self, (4, 9), unlike_share, (1, 2), 2)
        assert_told(self, (14, 25), unlike_share, (3, 1, 1), 2)
        assert_told(self, (18, 125), unlike_share, (3, 1, 1), 3)
        assert_told(self, (24, 625), unlike_share, (1, 1, 1, 1, 1), 5)
        assert_told(self, (0, 1), unlike_share, (9, 9, 9, 9, 9), 12)

    def test_by_going_through_all_cases(self):
        for shares in SMALL:
            for number in range(7):
                assert_told(self, pair(unlike_gone_through(shares, number)), unlike_share, shares, number)

    def test_each_number_of_draws(self):
        for shares in SHARES:
            for number in DRAWS:
                assert_told(self, pair(unlike_by_orders(shares, number)), unlike_share, shares, number)

    def test_no_number(self):
        for thing in NOT_DRAWS:
            for shares in ((1,), (3, 1, 1), (9, 9, 9, 9, 9)):
                assert_refused(self, NoNumber, unlike_share, shares, thing)

    def test_no_shares(self):
        for thing in NOT_SHARES:
            for number in (0, 2, 13, -1, True, None):
                assert_refused(self, NoShares, unlike_share, thing, number)


class TwiceMean(unittest.TestCase):

    def test_written_out(self):
        assert_told(self, (2, 1), twice_mean, (3,))
        assert_told(self, (5, 2), twice_mean, (1, 1))
        assert_told(self, (22, 9), twice_mean, (1, 2))
        assert_told(self, (26, 9), twice_mean, (1, 1, 1))

    def test_by_in_which_share_none_has_come_twice(self):
        for shares in SHARES + SMALL:
            wanted = sum(unlike_by_orders(shares, number) for number in range(len(shares) + 1))
            assert_told(self, pair(wanted), twice_mean, shares)
            self.assertEqual(together(unlike_share(shares, number) for number in DRAWS), twice_mean(shares))

    def test_by_going_through_all_cases(self):
        for shares in SMALL:
            wanted = sum(unlike_gone_through(shares, number) for number in range(len(shares) + 1))
            assert_told(self, pair(wanted), twice_mean, shares)

    def test_as_needs_of_2_each(self):
        for shares in SHARES:
            if len(shares) <= 3:
                self.assertEqual(twice_mean(shares), mean_any(shares, (2,) * len(shares)))

    def test_no_shares(self):
        for thing in NOT_SHARES:
            assert_refused(self, NoShares, twice_mean, thing)


class MeanKinds(unittest.TestCase):

    def test_written_out(self):
        assert_told(self, (3, 1), mean_kinds, (4, 4), 2)
        assert_told(self, (5, 2), mean_kinds, (1, 1, 1), 2)
        # A draw; behind kind 0, in 3 of 5 cases, 5/2 draws bring another one; behind each other one 5/4.
        assert_told(self, (3, 1), mean_kinds, (3, 1, 1), 2)
        assert_told(self, (23, 3), mean_kinds, (3, 1, 1), 3)

    def test_none_one_and_all(self):
        for shares in SHARES:
            assert_told(self, (0, 1), mean_kinds, shares, 0)
            assert_told(self, (1, 1), mean_kinds, shares, 1)
            assert_told(self, mean_all(shares), mean_kinds, shares, len(shares))

    def test_each_number_of_kinds(self):
        for shares in SHARES:
            for number in range(len(shares) + 1):
                assert_told(self, pair(mean_until_kinds(shares, number)), mean_kinds, shares, number)

    def test_more_kinds_take_longer(self):
        for shares in SHARES:
            for number in range(len(shares)):
                self.assertTrue(is_less(mean_kinds(shares, number), mean_kinds(shares, number + 1)))

    def test_no_number(self):
        for shares in SHARES:
            for thing in NEVER + [-1, len(shares) + 1, 6, 12, BIG, -BIG, (), (0,), (1,)]:
                assert_refused(self, NoNumber, mean_kinds, shares, thing)

    def test_no_shares(self):
        for thing in NOT_SHARES:
            for number in (0, 1, 9, -1, False, None):
                assert_refused(self, NoShares, mean_kinds, thing, number)


if __name__ == "__main__":
    unittest.main()
