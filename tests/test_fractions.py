"""[2], [11] of fractions, [12], and [3], [4], [5] as far as they reach fractions."""

import itertools
import math
import unittest
from fractions import Fraction

from kindsgathered.errors import NoNumber
from kindsgathered.fractions import added, is_fraction, is_less, lessened, lowest, multiplied
from tests.things import BIG, NEVER, assert_refused, assert_told

NINES = 10 ** 60 - 1
TENS = 10 ** 59

RIGHT = [
    (0, 1), (1, 1), (-1, 1), (1, 2), (-1, 2), (3, 4), (4, 3), (-4, 3), (7, 1), (-7, 1), (5, 6), (6, 5), (1, 6), (9, 10),
    (NINES, 1), (-NINES, 1), (1, NINES), (-1, NINES), (NINES, TENS), (-NINES, TENS), (TENS, NINES), (BIG, TENS),
]

WRONG = [
    0, 1, -1, BIG, -BIG, (), (0,), (1,), (1, 2, 3), (0, 1, 1), (1, 2, 1, 2), (BIG,),
    (0, 0), (0, 2), (0, -1), (0, BIG), (1, 0), (-1, 0), (1, -1), (-1, -1), (1, -2), (-1, -2), (BIG, 0), (1, -BIG),
    (2, 2), (2, 4), (-2, 4), (4, 2), (6, 9), (15, 25), (-49, 7), (BIG, BIG), (2 * TENS, 4), (NINES, 9), (TENS, TENS * 5),
    (BIG * 3, 3),
]

PAIRS = (added, lessened, multiplied, is_less)


def as_tuple(worth):
    return (worth.numerator, worth.denominator)


class IsFraction(unittest.TestCase):

    def test_right_ones(self):
        for thing in RIGHT:
            assert_told(self, True, is_fraction, thing)

    def test_wrong_ones(self):
        for thing in WRONG + NEVER:
            assert_told(self, False, is_fraction, thing)

    def test_all_small_pairs(self):
        for top, bottom in itertools.product(range(-15, 16), range(-3, 16)):
            wanted = bottom >= 1 and math.gcd(top, bottom) == 1
            assert_told(self, wanted, is_fraction, (top, bottom))

    def test_a_list_is_none(self):
        for thing in RIGHT:
            assert_told(self, False, is_fraction, list(thing))

    def test_greater_than_what_may_be_handed_in_first(self):
        assert_told(self, True, is_fraction, (2 ** 3000, 3 ** 2000))
        assert_told(self, False, is_fraction, (2 ** 3000 * 3, 3 ** 2000))


class Lowest(unittest.TestCase):

    def test_plain(self):
        assert_told(self, (3, 4), lowest, 6, 8)
        assert_told(self, (3, 4), lowest, 3, 4)
        assert_told(self, (5, 1), lowest, 5, 1)
        assert_told(self, (1, 1), lowest, 7, 7)

    def test_nought(self):
        for bottom in (1, 2, 9, BIG):
            assert_told(self, (0, 1), lowest, 0, bottom)

    def test_below_nought(self):
        assert_told(self, (-3, 4), lowest, -6, 8)
        assert_told(self, (-2, 1), lowest, -8, 4)
        assert_told(self, (-1, 3), lowest, -1, 3)

    def test_all_small_pairs(self):
        for top, bottom in itertools.product(range(-30, 31), range(1, 31)):
            assert_told(self, as_tuple(Fraction(top, bottom)), lowest, top, bottom)

    def test_sixty_figures(self):
        for top, bottom in itertools.product((NINES, -NINES, TENS, -TENS, BIG, -BIG, 9, 0), (NINES, TENS, BIG, 9, 1)):
            assert_told(self, as_tuple(Fraction(top, bottom)), lowest, top, bottom)

    def test_first_is_no_whole_number(self):
        for thing in NEVER + RIGHT + [()]:
            assert_refused(self, NoNumber, lowest, thing, 1)

    def test_second_is_none_from_1_on(self):
        for thing in NEVER + RIGHT + [(), 0, -1, -2, -BIG]:
            assert_refused(self, NoNumber, lowest, 1, thing)
            assert_refused(self, NoNumber, lowest, 0, thing)

    def test_the_first_goes_ahead_of_the_other(self):
        for thing in (None, True, (1, 2), [1]):
            for other in (0, None, False, "1"):
                self.assertIn("first", assert_refused(self, NoNumber, lowest, thing, other))
        self.assertIn("other", assert_refused(self, NoNumber, lowest, 1, 0))


class OfTwo(unittest.TestCase):

    def compare(self, one, other):
        first, second = Fraction(*one), Fraction(*other)
        assert_told(self, as_tuple(first + second), added, one, other)
        assert_told(self, as_tuple(first - second), lessened, one, other)
        assert_told(self, as_tuple(first * second), multiplied, one, other)
        assert_told(self, first < second, is_less, one, other)

    def test_written_out(self):
        assert_told(self, (5, 6), added, (1, 2), (1, 3))
        assert_told(self, (1, 1), added, (1, 2), (1, 2))
        assert_told(self, (1, 6), lessened, (1, 2), (1, 3))
        assert_told(self, (-1, 6), lessened, (1, 3), (1, 2))
        assert_told(self, (1, 2), multiplied, (2, 3), (3, 4))
        assert_told(self, True, is_less, (1, 3), (1, 2))
        assert_told(self, False, is_less, (1, 2), (1, 3))

    def test_nought(self):
        for one in RIGHT:
            assert_told(self, one, added, one, (0, 1))
            assert_told(self, one, added, (0, 1), one)
            assert_told(self, one, lessened, one, (0, 1))
            assert_told(self, (-one[0], one[1]), lessened, (0, 1), one)
            assert_told(self, (0, 1), multiplied, one, (0, 1))
            assert_told(self, (0, 1), multiplied, (0, 1), one)
            assert_told(self, one[0] > 0, is_less, (0, 1), one)
            assert_told(self, one[0] < 0, is_less, one, (0, 1))

    def test_alike(self):
        for one in RIGHT:
            assert_told(self, (0, 1), lessened, one, one)
            assert_told(self, False, is_less, one, one)
            self.compare(one, one)

    def test_below_nought(self):
        assert_told(self, True, is_less, (-1, 2), (-1, 3))
        assert_told(self, True, is_less, (-1, 2), (1, 3))
        assert_told(self, False, is_less, (1, 3), (-1, 2))
        assert_told(self, (1, 6), multiplied, (-1, 2), (-1, 3))
        assert_told(self, (0, 1), added, (-1, 2), (1, 2))

    def test_all_pairs_of_right_ones(self):
        for one, other in itertools.product(RIGHT, RIGHT):
            self.compare(one, other)

    def test_all_small_pairs(self):
        small = sorted({as_tuple(Fraction(top, bottom)) for top in range(-7, 8) for bottom in range(1, 8)})
        for one, other in itertools.product(small, small):
            self.compare(one, other)

    def test_close_ones_of_sixty_figures(self):
        one, other = lowest(NINES - 1, NINES), lowest(NINES - 2, NINES - 1)
        assert_told(self, True, is_less, other, one)
        assert_told(self, False, is_less, one, other)
        self.compare(one, other)

    def test_what_was_told_is_handed_in_again(self):
        grown = (NINES, BIG)
        worth = Fraction(*grown)
        for step in range(6):
            grown = multiplied(grown, grown)
            worth = worth * worth
            self.assertEqual(grown, as_tuple(worth))
        # Python refuses to write out numbers of more than some thousand figures; they are numbers all the same.
        grown = multiplied(multiplied(grown, grown), (3, 7))
        self.assertTrue(is_fraction(grown))
        self.assertEqual(grown, as_tuple(worth * worth * Fraction(3, 7)))
        self.assertEqual(added(grown, grown), multiplied(grown, (2, 1)))
        self.assertEqual(lessened(grown, grown), (0, 1))
        self.assertIs(is_less(grown, multiplied(grown, (2, 1))), True)

    def test_first_is_no_fraction(self):
        for function, thing in itertools.product(PAIRS, WRONG + NEVER):
            assert_refused(self, NoNumber, function, thing, (1, 2))

    def test_other_is_no_fraction(self):
        for function, thing in itertools.product(PAIRS, WRONG + NEVER):
            assert_refused(self, NoNumber, function, (1, 2), thing)
            assert_refused(self, NoNumber, function, (0, 1), thing)

    def test_the_first_goes_ahead_of_the_other(self):
        for function in PAIRS:
            for thing, other in itertools.product((None, (2, 4), 1, [1, 2]), (None, (1, 0), "1/2", {})):
                self.assertIn("first", assert_refused(self, NoNumber, function, thing, other))
            self.assertIn("other", assert_refused(self, NoNumber, function, (1, 2), (2, 4)))

    def test_huge_wrong_ones_are_refused_too(self):
        huge = 7 ** 9000
        for function in PAIRS:
            with self.assertRaises(NoNumber):
                function((huge, huge), (1, 2))
            with self.assertRaises(NoNumber):
                function((1, 2), (huge, 7))


if __name__ == "__main__":
    unittest.main()
