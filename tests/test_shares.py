"""[2], [11] of shares, and [3], [4], [5] as far as they reach shares."""

import itertools
import unittest
from fractions import Fraction

from kindsgathered.errors import NoKind, NoShares
from kindsgathered.fractions import added, is_fraction, lessened
from kindsgathered.shares import is_shares, part, total
from tests.things import BIG, NOT_KINDS_OF_THREE, NOT_SHARES, SHARES, all_some, assert_refused, assert_told, pair


class IsShares(unittest.TestCase):

    def test_right_ones(self):
        for thing in SHARES:
            assert_told(self, True, is_shares, thing)

    def test_wrong_ones(self):
        for thing in NOT_SHARES:
            assert_told(self, False, is_shares, thing)

    def test_all_of_up_to_three(self):
        numbers = range(-1, 12)
        for many in range(4):
            for thing in itertools.product(numbers, repeat=many):
                wanted = many >= 1 and all(number in range(1, 10) for number in thing)
                self.assertIs(is_shares(thing), wanted, thing)

    def test_one_wrong_at_each_place(self):
        for many in range(1, 6):
            for at in range(many):
                for wrong in (0, 10, -1, True, False, None, "1", (1,), [1], {}, BIG):
                    thing = (1,) * at + (wrong,) + (1,) * (many - at - 1)
                    assert_told(self, False, is_shares, thing)

    def test_a_list_is_none(self):
        for thing in SHARES:
            assert_told(self, False, is_shares, list(thing))


class Total(unittest.TestCase):

    def test_written_out(self):
        assert_told(self, 1, total, (1,))
        assert_told(self, 5, total, (3, 1, 1))
        assert_told(self, 45, total, (9, 9, 9, 9, 9))

    def test_right_ones(self):
        for shares in SHARES:
            assert_told(self, sum(shares), total, shares)

    def test_no_shares(self):
        for thing in NOT_SHARES:
            assert_refused(self, NoShares, total, thing)


class Part(unittest.TestCase):

    def test_written_out(self):
        assert_told(self, (3, 5), part, (3, 1, 1), (0,))
        assert_told(self, (1, 5), part, (3, 1, 1), (2,))
        assert_told(self, (4, 5), part, (3, 1, 1), (0, 2))
        assert_told(self, (1, 2), part, (1, 2, 3), (0, 1))
        assert_told(self, (1, 2), part, (1, 2, 3), (2,))

    def test_no_kinds_and_all_kinds(self):
        for shares in SHARES:
            assert_told(self, (0, 1), part, shares, ())
            assert_told(self, (1, 1), part, shares, tuple(range(len(shares))))

    def test_all_some_kinds(self):
        for shares in SHARES:
            for some in all_some(shares):
                worth = Fraction(sum(shares[kind] for kind in some), sum(shares))
                assert_told(self, pair(worth), part, shares, some)

    def test_some_and_the_others_make_the_whole(self):
        for shares in SHARES:
            for some in all_some(shares):
                others = tuple(kind for kind in range(len(shares)) if kind not in some)
                told = part(shares, some)
                self.assertTrue(is_fraction(told))
                self.assertEqual(added(told, part(shares, others)), (1, 1))
                self.assertEqual(lessened((1, 1), told), part(shares, others))

    def test_no_shares(self):
        for thing in NOT_SHARES:
            assert_refused(self, NoShares, part, thing, ())
            assert_refused(self, NoShares, part, thing, (0,))

    def test_no_kind(self):
        for thing in NOT_KINDS_OF_THREE:
            assert_refused(self, NoKind, part, (3, 1, 1), thing)

    def test_all_tuples_that_are_not_some_kinds(self):
        for shares in ((4,), (2, 2), (3, 1, 1)):
            right = all_some(shares)
            for many in range(5):
                for thing in itertools.product(range(-1, 5), repeat=many):
                    if thing not in right:
                        assert_refused(self, NoKind, part, shares, thing)

    def test_a_kind_that_is_not_there(self):
        for shares in SHARES:
            assert_refused(self, NoKind, part, shares, (len(shares),))
            assert_refused(self, NoKind, part, shares, (-1,))
            assert_refused(self, NoKind, part, shares, tuple(range(len(shares) + 1)))

    def test_no_shares_goes_ahead_of_no_kind(self):
        for shares, some in itertools.product(NOT_SHARES, (None, True, [0], (9,), (1, 0), (-1,), "0", {})):
            assert_refused(self, NoShares, part, shares, some)


if __name__ == "__main__":
    unittest.main()
