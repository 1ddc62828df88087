"""[51], [52], [53], [54], and [2], [3], [4], [5], [6] as far as they reach packs."""

import itertools
import math
import unittest
from fractions import Fraction

from kindsgathered.coming import mean_all
from kindsgathered.errors import NoNumber
from kindsgathered.fractions import added, is_fraction, is_less, lessened
from kindsgathered.packs import is_pack_paper, pack_cases, pack_many, pack_mean, pack_paper
from tests.things import BIG, NEVER, assert_refused, assert_told, pair

PACKS = [(many, size) for many in range(1, 6) for size in range(1, min(many, 3) + 1)]

NUMBERS = range(9)

NOT_MANY = NEVER + [0, -1, -5, 6, 7, 100, BIG, -BIG, (), (1,), (5,), (3, 1, 1)]

NOT_SIZE = NEVER + [0, -1, -3, 4, 5, 6, BIG, -BIG, (), (1,), (2,), (3,), (3, 1, 1)]

NOT_NUMBER = NEVER + [-1, -8, 9, 10, 12, 100, BIG, -BIG, (), (0,), (8,), (0, 1)]

OF_THREE_BY_TWO = [(0, 1), (3, 2), (2, 1), (5, 2)]


def gone_through(many, size, number):
    """In how many rows all kinds come, by going through all of them."""
    packs = list(itertools.combinations(range(many), size))
    rows = itertools.product(packs, repeat=number)
    return sum(len(set(itertools.chain(*row))) == many for row in rows)


def pack_by_pack(many, size, number):
    """The same, counted by the kinds that have come."""
    packs = [frozenset(pack) for pack in itertools.combinations(range(many), size)]
    rows = {frozenset(): 1}
    for step in range(number):
        behind = {}
        for come in rows:
            for pack in packs:
                behind[come | pack] = behind.get(come | pack, 0) + rows[come]
        rows = behind
    return rows.get(frozenset(range(many)), 0)


def mean_of_left(many, size, left):
    """The mean until so many left kinds have come, by the means until the first of some of them comes."""
    mean = Fraction(0)
    packs = math.comb(many, size)
    for few in range(1, left + 1):
        mean -= (-1) ** few * math.comb(left, few) * Fraction(packs, packs - math.comb(many - few, size))
    return mean


class PackMany(unittest.TestCase):

    def test_written_out(self):
        for (many, size), wanted in {
                (1, 1): 1, (2, 1): 2, (2, 2): 1, (3, 1): 3, (3, 2): 3, (3, 3): 1, (4, 1): 4, (4, 2): 6, (4, 3): 4,
                (5, 1): 5, (5, 2): 10, (5, 3): 10}.items():
            assert_told(self, wanted, pack_many, many, size)

    def test_each_set_is_one(self):
        for many, size in PACKS:
            wanted = len(list(itertools.combinations(range(many), size)))
            assert_told(self, wanted, pack_many, many, size)


class PackCases(unittest.TestCase):

    def test_written_out(self):
        assert_told(self, 0, pack_cases, 1, 1, 0)
        assert_told(self, 1, pack_cases, 1, 1, 8)
        assert_told(self, 2, pack_cases, 2, 1, 2)
        assert_told(self, 1, pack_cases, 2, 2, 1)
        assert_told(self, 0, pack_cases, 3, 2, 1)
        assert_told(self, 6, pack_cases, 3, 2, 2)
        assert_told(self, 6, pack_cases, 4, 2, 2)
        assert_told(self, 30, pack_cases, 5, 3, 2)
        assert_told(self, 120, pack_cases, 5, 1, 5)

    def test_by_going_through_all_rows(self):
        for many, size in PACKS:
            for number in range(5):
                assert_told(self, gone_through(many, size, number), pack_cases, many, size, number)

    def test_pack_by_pack(self):
        for many, size in PACKS:
            for number in NUMBERS:
                assert_told(self, pack_by_pack(many, size, number), pack_cases, many, size, number)

    def test_no_row_without_packs_brings_all(self):
        for many, size in PACKS:
            assert_told(self, 0, pack_cases, many, size, 0)

    def test_no_number_for_the_packs_drawn(self):
        for many, size in PACKS:
            for thing in NOT_NUMBER:
                assert_refused(self, NoNumber, pack_cases, many, size, thing)


class PackMean(unittest.TestCase):

    def test_written_out(self):
        assert_told(self, (1, 1), pack_mean, 1, 1)
        assert_told(self, (3, 1), pack_mean, 2, 1)
        # Of three by two: a pack, and then one kind is left, which two of three packs bring.
        assert_told(self, (5, 2), pack_mean, 3, 2)
        # Of four by two: a pack; of six one brings both others, four bring one of them, one brings none.
        # One left: 2. Two left: (6 + 4 * 2) / 5 = 14 / 5.
        assert_told(self, (19, 5), pack_mean, 4, 2)
        assert_told(self, (7, 3), pack_mean, 4, 3)

    def test_of_size_1_packs_are_draws_by_even_shares(self):
        for many in range(1, 6):
            assert_told(self, mean_all((1,) * many), pack_mean, many, 1)

    def test_a_pack_of_all_kinds_does_in_one(self):
        for many in (1, 2, 3):
            assert_told(self, (1, 1), pack_mean, many, many)

    def test_greater_packs_take_no_longer(self):
        for many, size in PACKS:
            if (many, size + 1) in PACKS:
                self.assertFalse(is_less(pack_mean(many, size), pack_mean(many, size + 1)))

    def test_by_the_means_until_the_first_of_some_comes(self):
        for many, size in PACKS:
            assert_told(self, pair(mean_of_left(many, size, many)), pack_mean, many, size)

    def test_no_less_than_the_first_packs_tell(self):
        for many, size in PACKS:
            lacks = [
                1 - Fraction(pack_cases(many, size, number), pack_many(many, size) ** number) for number in NUMBERS]
            self.assertGreaterEqual(Fraction(*pack_mean(many, size)), sum(lacks))


class PackPaper(unittest.TestCase):

    def test_written_out(self):
        assert_told(self, [(0, 1), (1, 1)], pack_paper, 1, 1)
        assert_told(self, [(0, 1), (2, 1), (3, 1)], pack_paper, 2, 1)
        assert_told(self, [(0, 1), (1, 1), (1, 1)], pack_paper, 2, 2)
        assert_told(self, OF_THREE_BY_TWO, pack_paper, 3, 2)
        assert_told(self, [(0, 1), (2, 1), (14, 5), (17, 5), (19, 5)], pack_paper, 4, 2)

    def test_a_list_of_fractions_one_more_than_there_are_kinds(self):
        for many, size in PACKS:
            paper = pack_paper(many, size)
            self.assertIs(paper.__class__, list)
            self.assertEqual(len(paper), many + 1)
            self.assertTrue(all(is_fraction(number) for number in paper))
            self.assertEqual(repr(paper[0]), "(0, 1)")
            self.assertEqual(repr(paper[-1]), repr(pack_mean(many, size)))

    def test_each_number_is_the_mean_of_who_is_left(self):
        for many, size in PACKS:
            wanted = [pair(mean_of_left(many, size, left)) for left in range(many + 1)]
            assert_told(self, wanted, pack_paper, many, size)

    def test_each_number_is_what_the_next_pack_leaves(self):
        for many, size in PACKS:
            paper = [Fraction(*number) for number in pack_paper(many, size)]
            packs = list(itertools.combinations(range(many), size))
            for left in range(1, many + 1):
                behind = [paper[left - sum(kind < left for kind in pack)] for pack in packs]
                self.assertEqual(paper[left], 1 + sum(behind) / len(packs))

    def test_it_is_new_and_the_askers_own(self):
        for many, size in PACKS:
            told, other, wanted = pack_paper(many, size), pack_paper(many, size), repr(pack_paper(many, size))
            self.assertIsNot(told, other)
            told[0] = (1, 7)
            told.append([])
            self.assertEqual(repr(other), wanted)
            self.assertEqual(repr(pack_paper(many, size)), wanted)
            self.assertFalse(is_pack_paper(told, many, size))
            self.assertTrue(is_pack_paper(other, many, size))
            told.clear()
            other.clear()
            self.assertEqual(repr(pack_paper(many, size)), wanted)
            self.assertEqual(repr(pack_mean(many, size)), repr(pack_paper(many, size)[-1]))


class IsPackPaper(unittest.TestCase):

    def assert_none(self, thing, many=3, size=2):
        assert_told(self, False, is_pack_paper, thing, many, size)

    def test_right_ones(self):
        for many, size in PACKS:
            assert_told(self, True, is_pack_paper, pack_paper(many, size), many, size)
        assert_told(self, True, is_pack_paper, [(0, 1), (3, 2), (2, 1), (5, 2)], 3, 2)
        assert_told(self, True, is_pack_paper, [(0, 1), (2, 1), (14, 5), (17, 5), (19, 5)], 4, 2)

    def test_a_number_more_or_less(self):
        for many, size in PACKS:
            paper = pack_paper(many, size)
            for at in range(many + 1):
                for step in ((1, 1), (1, 2), (1, BIG)):
                    self.assert_none([*paper[:at], added(paper[at], step), *paper[at + 1:]], many, size)
                    self.assert_none([*paper[:at], lessened(paper[at], step), *paper[at + 1:]], many, size)

    def test_led_on_from_another_beginning(self):
        for many, size in PACKS:
            for start in ((1, 1), (-1, 1), (1, BIG)):
                self.assert_none([added(start, number) for number in pack_paper(many, size)], many, size)

    def test_no_fraction_in_a_place(self):
        for many, size in PACKS:
            paper = pack_paper(many, size)
            for at, (top, bottom) in enumerate(paper):
                wrong = [
                    (top * 2, bottom * 2), (-top, -bottom), [top, bottom], top, top // bottom, bool(top), None, {},
                    f"{top}/{bottom}", ((top, bottom),), (top, bottom, 1), (top,), (str(top), bottom), [(top, bottom)],
                ]
                if bottom == 1:
                    wrong.append((top, True))
                if top in (0, 1):
                    wrong.append((bool(top), bottom))
                for number in wrong + NEVER:
                    self.assert_none([*paper[:at], number, *paper[at + 1:]], many, size)

    def test_a_number_left_out_or_one_too_many(self):
        for many, size in PACKS:
            paper = pack_paper(many, size)
            for at in range(many + 1):
                self.assert_none([*paper[:at], *paper[at + 1:]], many, size)
            for at in range(many + 2):
                for number in ((0, 1), (1, 1), paper[-1], None):
                    self.assert_none([*paper[:at], number, *paper[at:]], many, size)

    def test_two_exchanged(self):
        for many, size in PACKS:
            paper = pack_paper(many, size)
            for one, other in itertools.combinations(range(many + 1), 2):
                turned = list(paper)
                turned[one], turned[other] = turned[other], turned[one]
                assert_told(self, paper[one] == paper[other], is_pack_paper, turned, many, size)

    def test_another_packs(self):
        for one, other in itertools.permutations(PACKS, 2):
            self.assert_none(pack_paper(*one), *other)

    def test_things_of_whatever_kind(self):
        things = NEVER + [
            0, 1, BIG, (), tuple(OF_THREE_BY_TWO), [OF_THREE_BY_TWO], [[0, 1], [3, 2], [2, 1], [5, 2]],
            dict(enumerate(OF_THREE_BY_TWO)), {number: True for number in OF_THREE_BY_TWO}, "(0, 1) (3, 2) (2, 1) (5, 2)",
            [None] * 4, [True] * 4, [0] * 4, [(0, 1)] * 4, [[]] * 4, [{}] * 4,
        ]
        for many, size in PACKS:
            for thing in things:
                self.assert_none(thing, many, size)

    def test_what_is_done_later_to_what_was_handed_in(self):
        paper = pack_paper(3, 2)
        assert_told(self, True, is_pack_paper, paper, 3, 2)
        paper[1] = (1, 1)
        self.assert_none(paper)
        assert_told(self, OF_THREE_BY_TWO, pack_paper, 3, 2)


class NoNumbers(unittest.TestCase):

    def assert_all_refuse(self, many, size):
        for function in (pack_many, pack_mean, pack_paper):
            assert_refused(self, NoNumber, function, many, size)
        for number in (0, 2, 9, True, None):
            assert_refused(self, NoNumber, pack_cases, many, size, number)
        for thing in (OF_THREE_BY_TWO, [(0, 1), (1, 1)], None, [], 1):
            assert_refused(self, NoNumber, is_pack_paper, thing, many, size)

    def test_for_the_kinds(self):
        for thing in NOT_MANY:
            for size in (1, 3, 4, True, None):
                self.assert_all_refuse(thing, size)

    def test_for_the_size(self):
        for thing in NOT_SIZE:
            for many in range(1, 6):
                self.assert_all_refuse(many, thing)

    def test_a_size_greater_than_the_kinds(self):
        for many, size in itertools.product(range(1, 6), range(1, 6)):
            if size > many or size > 3:
                self.assert_all_refuse(many, size)


if __name__ == "__main__":
    unittest.main()
