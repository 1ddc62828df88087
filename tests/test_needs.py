"""[41], [42], [43], [44], and [2], [3], [4], [5] as far as they reach needs."""

import itertools
import math
import unittest
from fractions import Fraction

from kindsgathered.coming import all_share, mean_all
from kindsgathered.errors import NoNeeds, NoNumber, NoShares, TooMany
from kindsgathered.fractions import added, is_fraction, is_less, lessened
from kindsgathered.needs import are_needs, mean_any, mean_needs, needs_share
from tests.things import BIG, NEVER, NOT_SHARES, SHARES, all_some, assert_refused, assert_told, pair

DRAWS = range(9)

NOT_NEEDS_DRAWS = NEVER + [-1, -8, 9, 10, 12, 13, 100, BIG, -BIG, (), (0,), (8,), (0, 1)]

# None of these is needs of three kinds.
NOT_NEEDS_OF_THREE = NEVER + [
    0, 1, 3, -1, BIG, (), (0,), (1,), (0, 0), (1, 1), (3, 3), (0, 0, 0, 0), (1, 1, 1, 1), (1,) * 5, (4, 0, 0), (0, 4, 0),
    (0, 0, 4), (-1, 0, 0), (0, 0, -1), (BIG, 1, 1), (1, 1, -BIG), (True, 1, 1), (1, 1, True), (False, 0, 0), (0, False, 0),
    (1, None, 1), (1, "1", 1), (1, (1,), 1), (1, [1], 1), [1, 1, 1], [0, 0, 0], "1 1 1", {0: 1, 1: 1, 2: 1}, ((1, 1, 1),),
]

# Shares and needs of them that are too many.
TOO_MANY = [
    ((1, 2, 3, 4), (3, 3, 3, 1)), ((1, 2, 3, 4), (3, 3, 3, 3)), ((9, 9, 9, 9), (2, 2, 2, 2)), ((1, 1, 1, 1), (1, 3, 2, 2)),
    ((1,) * 5, (3, 3, 3, 0, 1)), ((1,) * 5, (0, 3, 3, 3, 3)), ((1,) * 5, (2, 2, 2, 2, 0)), ((1,) * 5, (1, 1, 1, 2, 2)),
    ((9,) * 5, (3, 3, 3, 3, 3)), ((1, 2, 3, 4, 5), (2, 1, 2, 1, 1)),
]

SOME_SHARES = [(1,), (9,), (1, 1), (1, 9), (2, 3), (3, 1, 1), (1, 2, 3), (4, 4, 4), (1, 2, 3, 4), (9, 1, 9, 1, 9)]


def few_enough(needs):
    return math.prod(need + 1 for need in needs) <= 64


def all_needs(many):
    """All needs of so many kinds that are not too many."""
    return [needs for needs in itertools.product(range(4), repeat=many) if few_enough(needs)]


def cases_of_counts(shares, counts):
    """In how many cases of so many draws each kind comes just so often."""
    cases = math.factorial(sum(counts))
    for share, count in zip(shares, counts):
        cases = cases // math.factorial(count) * share ** count
    return cases


def first_met(shares, needs):
    """The mean until some kind has come so often as needed: of each number of draws, the share in which none has."""
    mean = Fraction(0)
    for counts in itertools.product(*[range(need) for need in needs]):
        mean += Fraction(cases_of_counts(shares, counts), sum(shares) ** sum(counts))
    return mean


def last_met(shares, needs):
    """The mean until each has: the greatest of some numbers by the least of each few of them."""
    mean = Fraction(0)
    for some in all_some(shares)[1:]:
        among = [shares[kind] for kind in some]
        least = first_met(among, [needs[kind] for kind in some]) * Fraction(sum(shares), sum(among))
        mean -= (-1) ** len(some) * least
    return mean


def met_by_counts(shares, needs, number):
    cases = 0
    for counts in itertools.product(range(number + 1), repeat=len(shares)):
        if sum(counts) == number and all(count >= need for count, need in zip(counts, needs)):
            cases += cases_of_counts(shares, counts)
    return Fraction(cases, sum(shares) ** number)


def met_gone_through(shares, needs, number):
    """The same, by going through all cases one by one."""
    one_draw = [kind for kind, share in enumerate(shares) for again in range(share)]
    rows = list(itertools.product(one_draw, repeat=number))
    met = sum(all(row.count(kind) >= need for kind, need in enumerate(needs)) for row in rows)
    return Fraction(met, len(rows))


class AreNeeds(unittest.TestCase):

    def test_right_ones(self):
        for shares in SHARES:
            for many in range(4):
                assert_told(self, True, are_needs, (many,) * len(shares), shares)

    def test_all_small_tuples(self):
        for shares in ((4,), (1, 2), (3, 1, 1)):
            for many in range(5):
                for thing in itertools.product(range(-1, 5), repeat=many):
                    wanted = many == len(shares) and all(0 <= need <= 3 for need in thing)
                    self.assertIs(are_needs(thing, shares), wanted, thing)

    def test_too_many_are_needs(self):
        for shares, needs in TOO_MANY:
            assert_told(self, True, are_needs, needs, shares)

    def test_none(self):
        for thing in NOT_NEEDS_OF_THREE:
            assert_told(self, False, are_needs, thing, (3, 1, 1))

    def test_one_wrong_at_each_place(self):
        for shares in SHARES:
            for at in range(len(shares)):
                for wrong in (-1, 4, True, False, None, "1", (1,), [1], {}, BIG):
                    thing = (1,) * at + (wrong,) + (1,) * (len(shares) - at - 1)
                    assert_told(self, False, are_needs, thing, shares)

    def test_a_list_is_none(self):
        for shares in SHARES:
            assert_told(self, False, are_needs, [1] * len(shares), shares)

    def test_no_shares(self):
        for thing in NOT_SHARES:
            for needs in ((1, 1, 1), (1,), (), None, True, [1], thing):
                assert_refused(self, NoShares, are_needs, needs, thing)


class MeanNeeds(unittest.TestCase):

    def test_written_out(self):
        assert_told(self, (3, 1), mean_needs, (1, 1), (1, 1))
        assert_told(self, (2, 1), mean_needs, (1, 1), (1, 0))
        assert_told(self, (4, 1), mean_needs, (1, 1), (0, 2))
        # Of 2 and 1: 1 draw; in half of the cases 1 and 1 are left, 3 draws; in the others 2 and 0 are, 4 draws.
        assert_told(self, (9, 2), mean_needs, (1, 1), (2, 1))
        # Of 2 and 2: 1 draw, and then 1 and 2 are left, whichever came.
        assert_told(self, (11, 2), mean_needs, (1, 1), (2, 2))
        assert_told(self, (5, 1), mean_needs, (3, 1, 1), (0, 1, 0))
        assert_told(self, (23, 3), mean_needs, (3, 1, 1), (1, 1, 1))

    def test_of_one_kind_n_draws_do(self):
        for share in range(1, 10):
            for need in range(4):
                assert_told(self, (need, 1), mean_needs, (share,), (need,))

    def test_needs_of_1_each_are_until_all_have_come(self):
        for shares in SHARES:
            assert_told(self, mean_all(shares), mean_needs, shares, (1,) * len(shares))

    def test_needs_of_0_each_take_no_draw(self):
        for shares in SHARES:
            assert_told(self, (0, 1), mean_needs, shares, (0,) * len(shares))

    def test_one_kind_alone_is_needed(self):
        for shares in SHARES:
            for at, need in itertools.product(range(len(shares)), range(4)):
                needs = (0,) * at + (need,) + (0,) * (len(shares) - at - 1)
                assert_told(self, pair(Fraction(need * sum(shares), shares[at])), mean_needs, shares, needs)

    def test_by_the_means_until_the_first_of_some_is_met(self):
        for shares in SOME_SHARES:
            for needs in all_needs(len(shares)):
                self.assertEqual(mean_needs(shares, needs), pair(last_met(shares, needs)), (shares, needs))

    def test_as_many_as_are_taken(self):
        for shares, needs in (
                ((1, 2, 3), (3, 3, 3)), ((1, 2, 3, 4), (3, 3, 3, 0)), ((4, 3, 2, 1), (1, 3, 1, 3)),
                ((1, 2, 3, 4, 5), (0, 3, 3, 0, 3)), ((9, 1, 9, 1, 9), (1, 3, 1, 1, 1))):
            assert_told(self, pair(last_met(shares, needs)), mean_needs, shares, needs)

    def test_greater_needs_take_no_less(self):
        for shares in ((2,), (1, 9), (3, 1, 1)):
            for needs in all_needs(len(shares)):
                for at in range(len(shares)):
                    if needs[at] < 3:
                        more = needs[:at] + (needs[at] + 1,) + needs[at + 1:]
                        self.assertFalse(is_less(mean_needs(shares, more), mean_needs(shares, needs)))


class NeedsShare(unittest.TestCase):

    def test_written_out(self):
        assert_told(self, (1, 2), needs_share, (1, 1), (1, 1), 2)
        assert_told(self, (3, 4), needs_share, (1, 1), (1, 1), 3)
        assert_told(self, (3, 8), needs_share, (1, 1), (2, 1), 3)
        assert_told(self, (3, 8), needs_share, (1, 1), (2, 2), 4)
        assert_told(self, (1, 27), needs_share, (1, 2), (3, 0), 3)
        assert_told(self, (18, 125), needs_share, (3, 1, 1), (1, 1, 1), 3)
        assert_told(self, (0, 1), needs_share, (1, 2, 3), (3, 3, 3), 8)
        assert_told(self, (1, 1), needs_share, (1, 2, 3), (0, 0, 0), 0)
        assert_told(self, (0, 1), needs_share, (4,), (3,), 2)
        assert_told(self, (1, 1), needs_share, (4,), (3,), 3)

    def test_by_going_through_all_cases(self):
        for shares in ((1,), (2,), (1, 1), (2, 1), (1, 1, 1), (1, 1, 1, 1)):
            for number in range(6):
                for needs in all_needs(len(shares)):
                    wanted = pair(met_gone_through(shares, needs, number))
                    self.assertEqual(needs_share(shares, needs, number), wanted, (shares, needs, number))

    def test_by_how_often_each_kind_comes(self):
        for shares in SOME_SHARES:
            for needs in [*all_needs(len(shares))[::7], (1,) * len(shares)]:
                for number in DRAWS:
                    wanted = pair(met_by_counts(shares, needs, number))
                    assert_told(self, wanted, needs_share, shares, needs, number)

    def test_needs_of_1_each_are_all_kinds(self):
        for shares in SHARES:
            for number in DRAWS:
                assert_told(self, all_share(shares, number), needs_share, shares, (1,) * len(shares), number)

    def test_needs_of_0_each_are_met(self):
        for shares in SHARES:
            for number in DRAWS:
                assert_told(self, (1, 1), needs_share, shares, (0,) * len(shares), number)

    def test_the_mean_is_no_less_than_the_first_draws_tell(self):
        for shares in SOME_SHARES:
            for needs in all_needs(len(shares))[::5]:
                so_far = (0, 1)
                for number in DRAWS:
                    so_far = added(so_far, lessened((1, 1), needs_share(shares, needs, number)))
                self.assertFalse(is_less(mean_needs(shares, needs), so_far))

    def test_no_number(self):
        for thing in NOT_NEEDS_DRAWS:
            for needs in ((0, 0, 0), (1, 1, 1), (3, 3, 3)):
                assert_refused(self, NoNumber, needs_share, (3, 1, 1), needs, thing)
            # TooMany goes behind.
            for shares, needs in TOO_MANY:
                assert_refused(self, NoNumber, needs_share, shares, needs, thing)

    def test_no_needs_goes_ahead_of_no_number(self):
        for thing in NOT_NEEDS_OF_THREE:
            for number in (0, 8, 9, -1, True, None, [1]):
                assert_refused(self, NoNeeds, needs_share, (3, 1, 1), thing, number)

    def test_no_shares_goes_ahead_of_all_else(self):
        for thing in NOT_SHARES:
            for needs, number in itertools.product(((1, 1, 1), (3,) * 5, None, True, thing), (0, 9, False)):
                assert_refused(self, NoShares, needs_share, thing, needs, number)

    def test_too_many(self):
        for shares, needs in TOO_MANY:
            for number in DRAWS:
                assert_refused(self, TooMany, needs_share, shares, needs, number)


class MeanAny(unittest.TestCase):

    def test_written_out(self):
        assert_told(self, (1, 1), mean_any, (1, 1), (1, 1))
        assert_told(self, (5, 2), mean_any, (1, 1), (2, 2))
        assert_told(self, (33, 8), mean_any, (1, 1), (3, 3))
        # Of 1 and 2: 1 draw; in half of the cases it is done, in the others the next draw does it.
        assert_told(self, (3, 2), mean_any, (1, 1), (1, 2))
        assert_told(self, (4, 3), mean_any, (2, 1), (1, 2))
        assert_told(self, (5, 3), mean_any, (1, 2), (1, 2))

    def test_of_one_kind_n_draws_do(self):
        for share in range(1, 10):
            for need in range(4):
                assert_told(self, (need, 1), mean_any, (share,), (need,))

    def test_nought_where_a_need_is_0(self):
        for shares in SOME_SHARES:
            for needs in all_needs(len(shares)):
                if 0 in needs:
                    assert_told(self, (0, 1), mean_any, shares, needs)

    def test_needs_of_1_each_take_a_draw(self):
        for shares in SHARES:
            assert_told(self, (1, 1), mean_any, shares, (1,) * len(shares))

    def test_by_in_which_share_none_is_met(self):
        for shares in SOME_SHARES:
            for needs in all_needs(len(shares)):
                self.assertEqual(mean_any(shares, needs), pair(first_met(shares, needs)), (shares, needs))

    def test_no_greater_than_until_each_is_met(self):
        for shares in SOME_SHARES:
            for needs in all_needs(len(shares)):
                self.assertFalse(is_less(mean_needs(shares, needs), mean_any(shares, needs)))

    def test_too_many_also_where_a_need_is_0(self):
        self.assertTrue(any(0 in needs for shares, needs in TOO_MANY))
        for shares, needs in TOO_MANY:
            assert_refused(self, TooMany, mean_any, shares, needs)


class Means(unittest.TestCase):

    def test_fractions_from_nought_on(self):
        for shares in SOME_SHARES:
            for needs in all_needs(len(shares))[::3]:
                for told in (mean_needs(shares, needs), mean_any(shares, needs), needs_share(shares, needs, 8)):
                    self.assertTrue(is_fraction(told))
                    self.assertFalse(is_less(told, (0, 1)))

    def test_just_so_many_as_are_taken(self):
        for many in range(1, 6):
            for needs in itertools.product(range(4), repeat=many):
                if not few_enough(needs):
                    assert_refused(self, TooMany, mean_needs, (1,) * many, needs)

    def test_no_needs(self):
        for function in (mean_needs, mean_any):
            for thing in NOT_NEEDS_OF_THREE:
                assert_refused(self, NoNeeds, function, (3, 1, 1), thing)
            for shares in SHARES:
                assert_refused(self, NoNeeds, function, shares, (1,) * (len(shares) + 1))
                assert_refused(self, NoNeeds, function, shares, (4,) * len(shares))

    def test_no_shares(self):
        for function in (mean_needs, mean_any):
            for thing in NOT_SHARES:
                for needs in ((1, 1, 1), (0,), (3,) * 5, (), None, False, thing):
                    assert_refused(self, NoShares, function, thing, needs)


if __name__ == "__main__":
    unittest.main()
