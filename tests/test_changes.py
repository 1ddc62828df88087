"""[91], [92], [93], [94], and [2], [3], [4], [5] as far as they reach changed shares."""

import itertools
import unittest

from kindsgathered.changes import evened, is_quicker, joined, named, parted
from kindsgathered.coming import mean_all
from kindsgathered.errors import NoKind, NoNumber, NoShares, TooMany
from kindsgathered.fractions import is_less
from kindsgathered.shares import is_shares
from tests.things import (
    BIG, NEVER, NOT_A_KIND_OF_THREE, NOT_ORDERS_OF_THREE, NOT_SHARES, SHARES, assert_refused, assert_told)

MORE_SHARES = SHARES + [
    (2, 2), (4, 5), (5, 5), (8, 1), (9, 9), (2, 3, 4), (9, 1, 1), (1, 9, 1), (8, 1, 1, 1), (2, 2, 2, 3), (1, 3, 5, 7, 9),
    (2, 4, 1, 3, 5), (5, 4, 3, 2, 1), (8, 2, 1, 1, 7)]


def kinds_of(shares):
    return range(len(shares))


def joined_as_lists(shares, one, other):
    rest = list(shares)
    rest[min(one, other)] += rest[max(one, other)]
    del rest[max(one, other)]
    return tuple(rest)


class Joined(unittest.TestCase):

    def test_written_out(self):
        assert_told(self, (2,), joined, (1, 1), 0, 1)
        assert_told(self, (9,), joined, (4, 5), 1, 0)
        assert_told(self, (4, 1), joined, (3, 1, 1), 0, 1)
        assert_told(self, (4, 1), joined, (3, 1, 1), 0, 2)
        assert_told(self, (3, 2), joined, (3, 1, 1), 1, 2)
        assert_told(self, (3, 2), joined, (3, 1, 1), 2, 1)
        assert_told(self, (2, 5, 1, 3), joined, (2, 4, 1, 3, 1), 4, 1)
        assert_told(self, (1, 2, 8, 4), joined, (1, 2, 3, 4, 5), 2, 4)
        assert_told(self, (4, 2, 4, 5), joined, (1, 2, 3, 4, 5), 2, 0)

    def test_each_two_either_way(self):
        for shares in MORE_SHARES:
            for one, other in itertools.permutations(kinds_of(shares), 2):
                if shares[one] + shares[other] > 9:
                    assert_refused(self, TooMany, joined, shares, one, other)
                else:
                    assert_told(self, joined_as_lists(shares, one, other), joined, shares, one, other)
                    self.assertTrue(is_shares(joined(shares, one, other)))
                    self.assertEqual(joined(shares, one, other), joined(shares, other, one))

    def test_joined_shares_take_no_longer(self):
        for shares in MORE_SHARES:
            for one, other in itertools.combinations(kinds_of(shares), 2):
                if shares[one] + shares[other] <= 9:
                    self.assertFalse(is_less(mean_all(shares), mean_all(joined(shares, one, other))))

    def test_too_many(self):
        assert_refused(self, TooMany, joined, (5, 5), 0, 1)
        assert_refused(self, TooMany, joined, (1, 9), 1, 0)
        assert_refused(self, TooMany, joined, (9, 9, 9, 9, 9), 2, 4)


class Parted(unittest.TestCase):

    def test_written_out(self):
        assert_told(self, (1, 1), parted, (2,), 0, 1)
        assert_told(self, (8, 1), parted, (9,), 0, 8)
        assert_told(self, (1, 8), parted, (9,), 0, 1)
        assert_told(self, (2, 1, 1, 1), parted, (3, 1, 1), 0, 2)
        assert_told(self, (1, 1, 1, 2), parted, (3, 1, 1), 0, 1)
        assert_told(self, (1, 2, 1, 4, 2), parted, (1, 2, 3, 4), 2, 1)

    def test_each_kind_and_number(self):
        for shares in MORE_SHARES:
            for kind, number in itertools.product(kinds_of(shares), range(-1, 12)):
                if not 1 <= number < shares[kind]:
                    assert_refused(self, NoNumber, parted, shares, kind, number)
                elif len(shares) == 5:
                    assert_refused(self, TooMany, parted, shares, kind, number)
                else:
                    wanted = list(shares) + [shares[kind] - number]
                    wanted[kind] = number
                    assert_told(self, tuple(wanted), parted, shares, kind, number)
                    self.assertTrue(is_shares(parted(shares, kind, number)))

    def test_what_is_parted_is_joined_again(self):
        for shares in MORE_SHARES:
            for kind in kinds_of(shares):
                for number in range(1, shares[kind]):
                    if len(shares) < 5:
                        told = parted(shares, kind, number)
                        self.assertEqual(joined(told, kind, len(shares)), shares)
                        self.assertFalse(is_less(mean_all(told), mean_all(shares)))

    def test_no_number(self):
        for thing in NEVER + [0, -1, 3, 4, 9, 10, BIG, -BIG, (), (1,), (2,), (1, 1)]:
            for shares in ((3, 1, 1), (3,), (3, 1, 1, 9, 9)):
                assert_refused(self, NoNumber, parted, shares, 0, thing)

    def test_a_share_of_1_has_no_number(self):
        for number in (0, 1, True, False, None):
            assert_refused(self, NoNumber, parted, (3, 1, 1), 1, number)
            assert_refused(self, NoNumber, parted, (1, 1, 1, 1, 1), 4, number)

    def test_no_kind_goes_ahead_of_no_number(self):
        for thing in NOT_A_KIND_OF_THREE:
            for number in (1, 2, 0, 9, True, None, thing):
                assert_refused(self, NoKind, parted, (3, 1, 1), thing, number)
        for shares in MORE_SHARES:
            for wrong in (-1, len(shares), BIG):
                assert_refused(self, NoKind, parted, shares, wrong, 1)

    def test_no_shares(self):
        for thing in NOT_SHARES:
            for kind, number in itertools.product((0, 9, True, None), (1, 0, False, None)):
                assert_refused(self, NoShares, parted, thing, kind, number)


class Evened(unittest.TestCase):

    def test_written_out(self):
        assert_told(self, (2, 2), evened, (3, 1), 0, 1)
        assert_told(self, (2, 2, 1), evened, (3, 1, 1), 0, 1)
        assert_told(self, (2, 1, 2), evened, (3, 1, 1), 0, 2)
        assert_told(self, (2, 8), evened, (1, 9), 1, 0)
        assert_told(self, (1, 2, 4, 4, 4), evened, (1, 2, 3, 4, 5), 4, 2)

    def test_each_two_either_way(self):
        for shares in MORE_SHARES:
            for one, other in itertools.permutations(kinds_of(shares), 2):
                if shares[one] - shares[other] < 2:
                    assert_refused(self, NoNumber, evened, shares, one, other)
                else:
                    wanted = list(shares)
                    wanted[one] -= 1
                    wanted[other] += 1
                    assert_told(self, tuple(wanted), evened, shares, one, other)
                    told = evened(shares, one, other)
                    self.assertTrue(is_shares(told))
                    self.assertFalse(is_less(mean_all(shares), mean_all(told)))

    def test_no_number(self):
        for one, other in ((1, 1), (2, 1), (1, 2), (9, 9), (9, 8), (1, 9), (1, 3)):
            assert_refused(self, NoNumber, evened, (one, other), 0, 1)


class TwoKinds(unittest.TestCase):

    def test_no_kind_where_the_second_one_is_the_first_one(self):
        for function in (joined, evened):
            for shares in MORE_SHARES:
                for kind in kinds_of(shares):
                    assert_refused(self, NoKind, function, shares, kind, kind)

    def test_no_kind(self):
        for function in (joined, evened):
            for thing in NOT_A_KIND_OF_THREE:
                for shares in ((3, 1, 1), (9, 9, 9)):
                    for kind in (0, 1, 2, thing):
                        assert_refused(self, NoKind, function, shares, thing, kind)
                        assert_refused(self, NoKind, function, shares, kind, thing)

    def test_a_kind_that_is_not_there(self):
        for function in (joined, evened):
            for shares in MORE_SHARES:
                for wrong in (-1, len(shares), BIG):
                    assert_refused(self, NoKind, function, shares, 0, wrong)
                    assert_refused(self, NoKind, function, shares, wrong, 0)

    def test_no_shares(self):
        for function in (joined, evened):
            for thing in NOT_SHARES:
                for one, other in ((0, 1), (0, 0), (9, None), (True, False), (thing, thing)):
                    assert_refused(self, NoShares, function, thing, one, other)


class Named(unittest.TestCase):

    def test_written_out(self):
        assert_told(self, (4,), named, (4,), (0,))
        assert_told(self, (2, 1), named, (1, 2), (1, 0))
        assert_told(self, (3, 1, 2), named, (1, 2, 3), (2, 0, 1))
        assert_told(self, (5, 1, 4, 2, 3), named, (1, 2, 3, 4, 5), (4, 0, 3, 1, 2))

    def test_each_order(self):
        for shares in MORE_SHARES:
            for order in itertools.permutations(kinds_of(shares)):
                told = named(shares, order)
                self.assertIs(told.__class__, tuple)
                self.assertEqual(told, tuple(shares[kind] for kind in order))
                self.assertEqual(mean_all(told), mean_all(shares))

    def test_no_kind(self):
        for thing in NOT_ORDERS_OF_THREE:
            assert_refused(self, NoKind, named, (1, 2, 3), thing)

    def test_no_shares(self):
        for thing in NOT_SHARES:
            for order in ((0, 1, 2), (0,), (), None, True, thing):
                assert_refused(self, NoShares, named, thing, order)


class IsQuicker(unittest.TestCase):

    def test_written_out(self):
        assert_told(self, True, is_quicker, (1,), (1, 1))
        assert_told(self, False, is_quicker, (1, 1), (1,))
        assert_told(self, True, is_quicker, (1, 1), (1, 2))
        assert_told(self, True, is_quicker, (2, 3), (1, 3))
        assert_told(self, False, is_quicker, (9, 1), (1, 2, 3))

    def test_each_two(self):
        for one, other in itertools.product(SHARES, repeat=2):
            assert_told(self, is_less(mean_all(one), mean_all(other)), is_quicker, one, other)

    def test_as_quick_is_not_quicker(self):
        for shares in SHARES:
            assert_told(self, False, is_quicker, shares, shares)
            assert_told(self, False, is_quicker, shares, shares[::-1])
        assert_told(self, False, is_quicker, (1, 1), (4, 4))

    def test_no_shares_of_either(self):
        for thing in NOT_SHARES:
            for shares in ((1,), (3, 1, 1), thing, None):
                assert_refused(self, NoShares, is_quicker, thing, shares)
                assert_refused(self, NoShares, is_quicker, shares, thing)


if __name__ == "__main__":
    unittest.main()
