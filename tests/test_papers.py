"""[31], [32], [33], and [2], [3], [4], [5], [6] as far as they reach papers."""

import itertools
import unittest
from fractions import Fraction

from kindsgathered.coming import mean_all
from kindsgathered.errors import NoShares
from kindsgathered.fractions import added, is_fraction, is_less, lessened, lowest
from kindsgathered.papers import is_time_paper, over_bound, time_paper, under_bound
from tests.things import (
    BIG, KEYS_WITH_A_TRUTH, NEVER, NOT_SHARES, SHARES, all_kinds, all_some, assert_refused, assert_told, due, lefts, pair,
    put, renamed, without)

THREE = (3, 1, 1)

# The time paper of THREE, reckoned by hand.
OF_THREE = {
    (): (0, 1), (0,): (5, 3), (1,): (5, 1), (2,): (5, 1), (0, 1): (65, 12), (0, 2): (65, 12), (1, 2): (15, 2),
    (0, 1, 2): (23, 3),
}

# None of these is a fraction from nought on.
NOT_NUMBERS = NEVER + [
    0, 1, 5, -1, BIG, (-1, 1), (-5, 3), (-BIG, 1), (2, 4), (0, 2), (10, 2), (0, 0), (5, 0), (5, -1), (-5, -1), (1,),
    (5, 1, 1), (), [5, 1], (5, True), (True, 1), (False, 1), (5, "1"), "5/1", ((5, 1), 1), ((5, 1),),
]

# What a wrong key may stand in the place of, or beside; each is none of the some kinds of THREE.
NOT_KEYS = [
    None, True, False, 0, 1, 7, -1, BIG, "", "0", "0 1", (3,), (-1,), (0, 3), (1, 0), (2, 1), (2, 1, 0), (0, 0), (0, 0, 1),
    (0, 1, 2, 3), (None,), ("0",), ((),), ((0,),), ((0, 1),), (0, (1,)), (0, "1"), (0, None), (BIG,),
]

def worth(number):
    return Fraction(*number)


def made(shares, rise):
    """A paper in which each number is the due one, and a rise that hangs on who is left."""
    paper = {(): (0, 1)}
    for left in lefts(shares):
        paper[left] = pair(due(paper, shares, left) + rise(left))
    return paper


def mean_of(shares, left):
    """The mean until all left kinds have come, by the means until the first of some of them comes."""
    mean = Fraction(0)
    for some in lefts(shares):
        if set(some) <= set(left):
            mean -= (-1) ** len(some) * Fraction(sum(shares), sum(shares[kind] for kind in some))
    return mean


class TimePaper(unittest.TestCase):

    def test_written_out(self):
        self.assertEqual(time_paper((1,)), {(): (0, 1), (0,): (1, 1)})
        self.assertEqual(time_paper((9,)), {(): (0, 1), (0,): (1, 1)})
        self.assertEqual(time_paper((1, 2)), {(): (0, 1), (0,): (3, 1), (1,): (3, 2), (0, 1): (7, 2)})
        self.assertEqual(time_paper(THREE), OF_THREE)

    def test_a_fraction_for_each_some_kinds_and_for_nothing_else(self):
        for shares in SHARES:
            paper = time_paper(shares)
            self.assertIs(paper.__class__, dict)
            self.assertEqual(sorted(map(repr, paper)), sorted(map(repr, all_some(shares))))
            for number in paper.values():
                self.assertTrue(is_fraction(number))
            self.assertEqual(repr(paper[()]), "(0, 1)")

    def test_each_number_is_the_due_one(self):
        for shares in SHARES:
            paper = time_paper(shares)
            for left in lefts(shares):
                self.assertEqual(worth(paper[left]), due(paper, shares, left))

    def test_each_number_is_the_mean_of_who_is_left(self):
        for shares in SHARES:
            paper = time_paper(shares)
            for left in all_some(shares):
                self.assertEqual(worth(paper[left]), mean_of(shares, left))

    def test_its_number_of_all_kinds_is_the_mean(self):
        for shares in SHARES:
            self.assertEqual(time_paper(shares)[all_kinds(shares)], mean_all(shares))

    def test_the_same_asked_again(self):
        for shares in SHARES:
            self.assertEqual(repr(time_paper(shares)), repr(time_paper(shares)))

    def test_it_is_new_and_the_askers_own(self):
        for shares in SHARES:
            told, wanted = time_paper(shares), repr(time_paper(shares))
            other = time_paper(shares)
            self.assertIsNot(told, other)
            told[all_kinds(shares)] = (1, 7)
            told["more"] = []
            del told[()]
            self.assertEqual(repr(other), wanted)
            self.assertEqual(repr(time_paper(shares)), wanted)
            self.assertFalse(is_time_paper(told, shares))
            self.assertTrue(is_time_paper(other, shares))
            other.clear()
            self.assertEqual(repr(time_paper(shares)), wanted)

    def test_of_two_kinds_the_mean_with_the_lesser_left_is_the_greater(self):
        for shares in SHARES:
            paper = time_paper(shares)
            for one, other in itertools.permutations(range(len(shares)), 2):
                if shares[one] > shares[other]:
                    self.assertTrue(is_less(paper[(one,)], paper[(other,)]))
                for rest in all_some(shares):
                    if shares[one] > shares[other] and one not in rest and other not in rest:
                        greater = paper[tuple(sorted(rest + (other,)))]
                        self.assertTrue(is_less(paper[tuple(sorted(rest + (one,)))], greater))

    def test_no_shares(self):
        for thing in NOT_SHARES:
            assert_refused(self, NoShares, time_paper, thing)


class RightPapers(unittest.TestCase):

    def test_a_time_paper_is_all_three(self):
        for shares in SHARES:
            paper = time_paper(shares)
            assert_told(self, True, is_time_paper, paper, shares)
            assert_told(self, mean_all(shares), over_bound, paper, shares)
            assert_told(self, mean_all(shares), under_bound, paper, shares)

    def test_whoever_made_it_and_in_whatever_order(self):
        for order in (sorted(OF_THREE), sorted(OF_THREE, reverse=True)):
            paper = {key: OF_THREE[key] for key in order}
            assert_told(self, True, is_time_paper, paper, THREE)
            assert_told(self, (23, 3), over_bound, paper, THREE)
            assert_told(self, (23, 3), under_bound, paper, THREE)

    def test_of_other_shares_it_is_none(self):
        for shares, other in itertools.permutations(SHARES, 2):
            paper = time_paper(shares)
            means_alike = repr(paper) == repr(time_paper(other))
            assert_told(self, means_alike, is_time_paper, paper, other)
            if len(shares) != len(other):
                assert_told(self, None, over_bound, paper, other)
                assert_told(self, None, under_bound, paper, other)

    def test_a_number_more_at_one_place(self):
        for shares in SHARES:
            paper = time_paper(shares)
            for left in lefts(shares):
                more = put(paper, left, added(paper[left], (1, BIG)))
                assert_told(self, False, is_time_paper, more, shares)
                assert_told(self, None, under_bound, more, shares)
                # Of more left the due number is then the greater one, unless there are none.
                wanted = more[left] if left == all_kinds(shares) else None
                assert_told(self, wanted, over_bound, more, shares)

    def test_a_number_less_at_one_place(self):
        for shares in SHARES:
            paper = time_paper(shares)
            for left in lefts(shares):
                less = put(paper, left, lessened(paper[left], (1, BIG)))
                assert_told(self, False, is_time_paper, less, shares)
                assert_told(self, None, over_bound, less, shares)
                wanted = less[left] if left == all_kinds(shares) else None
                assert_told(self, wanted, under_bound, less, shares)

    def test_over_papers(self):
        for shares in SHARES:
            for step in ((1, 100), (1, 1), (BIG, 3)):
                paper = made(shares, lambda left: worth(step) * len(left))
                assert_told(self, False, is_time_paper, paper, shares)
                assert_told(self, paper[all_kinds(shares)], over_bound, paper, shares)
                assert_told(self, None, under_bound, paper, shares)
                self.assertTrue(is_less(mean_all(shares), over_bound(paper, shares)))

    def test_over_papers_that_rise_at_one_place(self):
        for shares in SHARES:
            for at in lefts(shares):
                paper = made(shares, lambda left: Fraction(1, 7) if left == at else Fraction(0))
                assert_told(self, False, is_time_paper, paper, shares)
                assert_told(self, paper[all_kinds(shares)], over_bound, paper, shares)
                assert_told(self, None, under_bound, paper, shares)
                self.assertFalse(is_less(over_bound(paper, shares), mean_all(shares)))

    def test_under_papers_that_fall_at_one_place(self):
        for shares in SHARES:
            for at in lefts(shares):
                paper = made(shares, lambda left: Fraction(-1, 7) if left == at else Fraction(0))
                assert_told(self, False, is_time_paper, paper, shares)
                assert_told(self, paper[all_kinds(shares)], under_bound, paper, shares)
                assert_told(self, None, over_bound, paper, shares)
                self.assertFalse(is_less(mean_all(shares), under_bound(paper, shares)))

    def test_nought_throughout_is_an_under_paper(self):
        for shares in SHARES:
            paper = {some: (0, 1) for some in all_some(shares)}
            assert_told(self, False, is_time_paper, paper, shares)
            assert_told(self, (0, 1), under_bound, paper, shares)
            assert_told(self, None, over_bound, paper, shares)

    def test_a_paper_that_is_neither(self):
        paper = put(put(OF_THREE, (1,), (4, 1)), (2,), (6, 1))
        assert_told(self, False, is_time_paper, paper, THREE)
        assert_told(self, None, over_bound, paper, THREE)
        assert_told(self, None, under_bound, paper, THREE)

    def test_just_the_time_paper_is_both(self):
        # All papers of two kinds with few choices at each place.
        shares = (1, 2)
        choices = [lowest(top, 4) for top in range(17)]
        for one, other, both in itertools.product(choices, repeat=3):
            paper = {(): (0, 1), (0,): one, (1,): other, (0, 1): both}
            right = paper == {(): (0, 1), (0,): (3, 1), (1,): (3, 2), (0, 1): (7, 2)}
            over = all(worth(paper[left]) >= due(paper, shares, left) for left in lefts(shares))
            under = all(worth(paper[left]) <= due(paper, shares, left) for left in lefts(shares))
            self.assertIs(is_time_paper(paper, shares), right)
            self.assertEqual(over_bound(paper, shares), both if over else None)
            self.assertEqual(under_bound(paper, shares), both if under else None)
            self.assertEqual(over and under, right)

    def test_what_is_done_later_to_what_was_handed_in(self):
        paper = time_paper(THREE)
        bound = over_bound(paper, THREE)
        paper.clear()
        self.assertEqual(bound, (23, 3))
        assert_told(self, False, is_time_paper, paper, THREE)
        assert_told(self, True, is_time_paper, time_paper(THREE), THREE)


class WrongPapers(unittest.TestCase):

    def assert_none(self, thing, shares=THREE):
        assert_told(self, False, is_time_paper, thing, shares)
        assert_told(self, None, over_bound, thing, shares)
        assert_told(self, None, under_bound, thing, shares)

    def test_wrong_numbers_at_each_key(self):
        for key in OF_THREE:
            for wrong in NOT_NUMBERS:
                self.assert_none(put(OF_THREE, key, wrong))

    def test_not_in_lowest_terms(self):
        for shares in SHARES:
            paper = time_paper(shares)
            for key, (top, bottom) in paper.items():
                self.assert_none(put(paper, key, (top * 2, bottom * 2)), shares)
                self.assert_none(put(paper, key, [top, bottom]), shares)
                if top > 0:
                    self.assert_none(put(paper, key, (-top, bottom)), shares)
                    self.assert_none(put(paper, key, (-top, -bottom)), shares)

    def test_a_truth_or_a_whole_number_in_the_place_of_one(self):
        for shares in ((1,), (9,)):
            for wrong in (1, True, (True, 1), (1, True), (True, True)):
                self.assert_none({(): (0, 1), (0,): wrong}, shares)
            for wrong in (0, False, (False, 1), (0, True), (False, True)):
                self.assert_none({(): wrong, (0,): (1, 1)}, shares)

    def test_below_nought_in_an_under_paper(self):
        paper = {some: (0, 1) for some in all_some(THREE)}
        for key in paper:
            self.assert_none(put(paper, key, (-1, 1)))
            self.assert_none(put(paper, key, (-1, BIG)))

    def test_not_nought_for_none(self):
        for number in ((1, 1), (1, 2), (BIG, 1), (1, BIG), (-1, 1)):
            paper = {(): number}
            for left in lefts(THREE):
                paper[left] = pair(due(paper, THREE, left))
            self.assert_none(paper)
            self.assert_none(put(OF_THREE, (), number))

    def test_a_key_left_out(self):
        for shares in SHARES:
            paper = time_paper(shares)
            for key in paper:
                self.assert_none(without(paper, key), shares)

    def test_a_key_too_many(self):
        for key in NOT_KEYS:
            for number in ((0, 1), (23, 3), None):
                self.assert_none(put(OF_THREE, key, number))
        for shares in SHARES:
            self.assert_none(put(time_paper(shares), (len(shares),), (1, 1)), shares)

    def test_another_key_in_the_place_of_one(self):
        for key in OF_THREE:
            for other in NOT_KEYS:
                self.assert_none(renamed(OF_THREE, key, other))

    def test_a_truth_in_a_kinds_place(self):
        for key, other in KEYS_WITH_A_TRUTH:
            paper = renamed(OF_THREE, key, other)
            # To Python the two are the same, so only what is seen of the keys themselves tells.
            self.assertEqual(paper, OF_THREE)
            self.assert_none(paper)
        self.assert_none({(): (0, 1), (False,): (1, 1)}, (4,))

    def test_things_of_whatever_kind(self):
        things = NEVER + SHARES + [
            0, 1, BIG, -1, (), [OF_THREE], (OF_THREE,), {(): OF_THREE}, list(OF_THREE.items()), tuple(OF_THREE.items()),
            list(OF_THREE), list(OF_THREE.values()), {key: None for key in OF_THREE}, {key: [] for key in OF_THREE},
            {key: {} for key in OF_THREE}, {key: key for key in OF_THREE}, dict(enumerate(OF_THREE.values())),
        ]
        for thing in things:
            for shares in ((1,), (1, 2), THREE, (1, 2, 3, 4, 5)):
                self.assert_none(thing, shares)

    def test_no_shares(self):
        for function in (is_time_paper, over_bound, under_bound):
            for thing in NOT_SHARES:
                for paper in (OF_THREE, {}, None, True, {(): (0, 1)}, [1], thing):
                    assert_refused(self, NoShares, function, paper, thing)


if __name__ == "__main__":
    unittest.main()
