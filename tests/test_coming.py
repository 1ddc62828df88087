"""[21], [22], [23], [24], and [2], [3], [4], [5] as far as they reach draws until all have come."""

import itertools
import unittest
from fractions import Fraction

from kindsgathered.coming import all_share, just_cases, lacking, last_share, mean_all
from kindsgathered.errors import NoKind, NoNumber, NoShares
from kindsgathered.fractions import added, is_fraction, is_less, lessened
from tests.things import (
    NOT_DRAWS, NOT_KINDS_OF_THREE, NOT_SHARES, SHARES, all_some, assert_refused, assert_told, pair)

BY_NUMBER = (all_share, last_share, lacking)

DRAWS = range(13)


def counted(shares, number):
    """For each some kinds, in how many cases of so many draws just they come, reckoned draw by draw."""
    cases = {some: 0 for some in all_some(shares)}
    cases[()] = 1
    for draw in range(number):
        behind = {some: 0 for some in cases}
        for some in cases:
            for kind, share in enumerate(shares):
                behind[tuple(sorted({*some, kind}))] += share * cases[some]
        cases = behind
    return cases


def gone_through(shares, number):
    """The same, by going through all cases one by one."""
    one_draw = [kind for kind, share in enumerate(shares) for again in range(share)]
    cases = {some: 0 for some in all_some(shares)}
    for row in itertools.product(one_draw, repeat=number):
        cases[tuple(sorted(set(row)))] += 1
    return cases


def mean_by_steps(shares, come=()):
    """The mean number of draws still to come, by what the next draw brings."""
    lack = [kind for kind in range(len(shares)) if kind not in come]
    if not lack:
        return Fraction(0)
    together = sum((shares[kind] * mean_by_steps(shares, come + (kind,)) for kind in lack), Fraction(sum(shares)))
    return together / sum(shares[kind] for kind in lack)


class JustCases(unittest.TestCase):

    def test_written_out(self):
        assert_told(self, 1, just_cases, (3, 1, 1), (), 0)
        assert_told(self, 0, just_cases, (3, 1, 1), (), 1)
        assert_told(self, 0, just_cases, (3, 1, 1), (0,), 0)
        assert_told(self, 3, just_cases, (3, 1, 1), (0,), 1)
        assert_told(self, 9, just_cases, (3, 1, 1), (0,), 2)
        assert_told(self, 6, just_cases, (3, 1, 1), (0, 1), 2)
        assert_told(self, 2, just_cases, (3, 1, 1), (1, 2), 2)
        assert_told(self, 0, just_cases, (3, 1, 1), (0, 1, 2), 2)
        assert_told(self, 18, just_cases, (3, 1, 1), (0, 1, 2), 3)
        assert_told(self, 14, just_cases, (1, 1), (0, 1), 4)
        assert_told(self, 1, just_cases, (1,), (0,), 12)
        assert_told(self, 9 ** 12, just_cases, (9,), (0,), 12)
        assert_told(self, 9 ** 12 * 165528000, just_cases, (9, 9, 9, 9, 9), (0, 1, 2, 3, 4), 12)

    def test_by_going_through_all_cases(self):
        for shares in ((1,), (2,), (1, 1), (2, 1), (1, 1, 1), (1, 2, 1), (1, 1, 1, 1), (1, 1, 1, 1, 1), (2, 1, 1, 1)):
            for number in range(6):
                for some, cases in gone_through(shares, number).items():
                    assert_told(self, cases, just_cases, shares, some, number)

    def test_draw_by_draw(self):
        for shares in SHARES:
            for number in DRAWS:
                for some, cases in counted(shares, number).items():
                    self.assertEqual(repr(just_cases(shares, some, number)), repr(cases), (shares, some, number))

    def test_all_sets_of_kinds_make_all_cases(self):
        for shares in SHARES:
            for number in DRAWS:
                together = sum(just_cases(shares, some, number) for some in all_some(shares))
                self.assertEqual(together, sum(shares) ** number)

    def test_no_shares(self):
        for thing in NOT_SHARES:
            assert_refused(self, NoShares, just_cases, thing, (0,), 1)
            assert_refused(self, NoShares, just_cases, thing, (True,), 13)
            assert_refused(self, NoShares, just_cases, thing, None, None)

    def test_no_kind(self):
        for thing in NOT_KINDS_OF_THREE:
            assert_refused(self, NoKind, just_cases, (3, 1, 1), thing, 3)
            assert_refused(self, NoKind, just_cases, (3, 1, 1), thing, 13)
            assert_refused(self, NoKind, just_cases, (3, 1, 1), thing, None)

    def test_a_kind_that_is_not_there(self):
        for shares in SHARES:
            assert_refused(self, NoKind, just_cases, shares, (len(shares),), 0)
            assert_refused(self, NoKind, just_cases, shares, (-1,), 0)

    def test_no_number(self):
        for thing in NOT_DRAWS:
            for some in ((), (1,), (0, 1, 2)):
                assert_refused(self, NoNumber, just_cases, (3, 1, 1), some, thing)


class AllShare(unittest.TestCase):

    def test_written_out(self):
        assert_told(self, (0, 1), all_share, (1,), 0)
        assert_told(self, (1, 1), all_share, (1,), 1)
        assert_told(self, (1, 1), all_share, (9,), 12)
        assert_told(self, (0, 1), all_share, (1, 1), 1)
        assert_told(self, (1, 2), all_share, (1, 1), 2)
        assert_told(self, (7, 8), all_share, (1, 1), 4)
        assert_told(self, (4, 9), all_share, (1, 2), 2)
        assert_told(self, (18, 125), all_share, (3, 1, 1), 3)
        assert_told(self, (24, 625), all_share, (1, 1, 1, 1, 1), 5)

    def test_draw_by_draw(self):
        for shares in SHARES:
            for number in DRAWS:
                wanted = Fraction(counted(shares, number)[tuple(range(len(shares)))], sum(shares) ** number)
                assert_told(self, pair(wanted), all_share, shares, number)

    def test_as_great_as_the_draws_so_far_brought_the_last_one(self):
        for shares in SHARES:
            together = (0, 1)
            for number in DRAWS:
                together = added(together, last_share(shares, number))
                self.assertEqual(all_share(shares, number), together)


class LastShare(unittest.TestCase):

    def test_written_out(self):
        assert_told(self, (0, 1), last_share, (1,), 0)
        assert_told(self, (1, 1), last_share, (1,), 1)
        assert_told(self, (0, 1), last_share, (1,), 2)
        assert_told(self, (0, 1), last_share, (7,), 12)
        assert_told(self, (0, 1), last_share, (1, 1), 0)
        assert_told(self, (0, 1), last_share, (1, 1), 1)
        assert_told(self, (1, 2), last_share, (1, 1), 2)
        assert_told(self, (1, 4), last_share, (1, 1), 3)
        assert_told(self, (2, 9), last_share, (1, 2), 3)
        assert_told(self, (18, 125), last_share, (3, 1, 1), 3)

    def test_of_0_it_is_nought(self):
        for shares in SHARES:
            assert_told(self, (0, 1), last_share, shares, 0)

    def test_by_which_kind_was_lacking(self):
        for shares in SHARES:
            for number in range(1, 13):
                ahead = counted(shares, number - 1)
                wanted = sum(
                    share * ahead[tuple(each for each in range(len(shares)) if each != kind)]
                    for kind, share in enumerate(shares))
                assert_told(self, pair(Fraction(wanted, sum(shares) ** number)), last_share, shares, number)


class Lacking(unittest.TestCase):

    def test_written_out(self):
        assert_told(self, (1, 1), lacking, (1,), 0)
        assert_told(self, (0, 1), lacking, (1,), 1)
        assert_told(self, (0, 1), lacking, (9,), 12)
        assert_told(self, (2, 1), lacking, (1, 1), 0)
        assert_told(self, (1, 1), lacking, (1, 1), 1)
        assert_told(self, (1, 2), lacking, (1, 1), 2)
        assert_told(self, (5, 9), lacking, (1, 2), 2)
        assert_told(self, (2, 1), lacking, (3, 1, 1), 1)
        assert_told(self, (36, 25), lacking, (3, 1, 1), 2)

    def test_all_lack_ahead_of_the_first_draw(self):
        for shares in SHARES:
            assert_told(self, (len(shares), 1), lacking, shares, 0)

    def test_draw_by_draw(self):
        for shares in SHARES:
            for number in DRAWS:
                cases = counted(shares, number)
                wanted = sum((len(shares) - len(some)) * cases[some] for some in cases)
                assert_told(self, pair(Fraction(wanted, sum(shares) ** number)), lacking, shares, number)

    def test_a_draw_more_lessens_what_lacks_or_it_is_nought(self):
        for shares in SHARES:
            for number in range(12):
                ahead, behind = lacking(shares, number), lacking(shares, number + 1)
                self.assertTrue(is_less(behind, ahead) or ahead == behind == (0, 1), (shares, number))


class ByNumber(unittest.TestCase):

    def test_fractions_from_nought_on(self):
        for function, shares, number in itertools.product(BY_NUMBER, SHARES, DRAWS):
            told = function(shares, number)
            self.assertTrue(is_fraction(told))
            self.assertFalse(is_less(told, (0, 1)))

    def test_no_shares(self):
        for function in BY_NUMBER:
            for thing in NOT_SHARES:
                assert_refused(self, NoShares, function, thing, 0)
                assert_refused(self, NoShares, function, thing, 2)
                assert_refused(self, NoShares, function, thing, 13)
                assert_refused(self, NoShares, function, thing, False)

    def test_no_number(self):
        for function in BY_NUMBER:
            for thing in NOT_DRAWS:
                for shares in ((1,), (3, 1, 1), (9, 9, 9, 9, 9)):
                    assert_refused(self, NoNumber, function, shares, thing)


class MeanAll(unittest.TestCase):

    def test_even_shares(self):
        for share in range(1, 10):
            assert_told(self, (1, 1), mean_all, (share,))
            assert_told(self, (3, 1), mean_all, (share,) * 2)
            assert_told(self, (11, 2), mean_all, (share,) * 3)
            assert_told(self, (25, 3), mean_all, (share,) * 4)
            assert_told(self, (137, 12), mean_all, (share,) * 5)

    def test_uneven_shares(self):
        # Of 1 and 2: one draw, then in 1 of 3 cases 3/2 draws for the other one, in 2 of 3 cases 3 draws.
        assert_told(self, (7, 2), mean_all, (1, 2))
        assert_told(self, (7, 2), mean_all, (2, 1))
        assert_told(self, (91, 9), mean_all, (1, 9))
        assert_told(self, (23, 3), mean_all, (3, 1, 1))
        assert_told(self, (73, 10), mean_all, (1, 2, 3))

    def test_by_what_the_next_draw_brings(self):
        for shares in SHARES:
            assert_told(self, pair(mean_by_steps(shares)), mean_all, shares)

    def test_all_of_two_kinds(self):
        for shares in itertools.product(range(1, 10), repeat=2):
            one, other = shares
            wanted = 1 + Fraction(one, other) + Fraction(other, one)
            assert_told(self, pair(wanted), mean_all, shares)

    def test_no_less_than_the_first_draws_tell(self):
        # The mean is, over all numbers of draws, the share in which not all have come, together.
        for shares in SHARES:
            so_far = (0, 1)
            for number in DRAWS:
                so_far = added(so_far, lessened((1, 1), all_share(shares, number)))
                self.assertFalse(is_less(mean_all(shares), so_far))

    def test_no_shares(self):
        for thing in NOT_SHARES:
            assert_refused(self, NoShares, mean_all, thing)


if __name__ == "__main__":
    unittest.main()
