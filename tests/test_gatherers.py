"""[71], [72], [73], [74], and [2], [3], [4], [5] as far as they reach several gatherers."""

import itertools
import unittest
from fractions import Fraction

from kindsgathered.coming import mean_all
from kindsgathered.errors import NoNumber, NoShares, TooMany
from kindsgathered.fractions import is_fraction, is_less, multiplied
from kindsgathered.gatherers import given_lacking, given_share, rounds_mean, together_mean
from kindsgathered.needs import mean_needs
from tests.test_needs import last_met
from tests.things import BIG, NEVER, NOT_SHARES, SHARES, all_some, assert_refused, assert_told, pair

FEW = [shares for shares in SHARES if len(shares) <= 3]

MORE = [shares for shares in SHARES if len(shares) > 3]

NOT_ONE_OR_TWO = NEVER + [0, -1, -2, 3, 4, 100, BIG, -BIG, (), (1,), (2,), (1, 1)]

NOT_ONE_TO_THREE = NEVER + [0, -1, -3, 4, 5, 100, BIG, -BIG, (), (1,), (3,), (1, 1)]


def both_rounds(shares):
    """The mean until both have all: by the share in which so many rounds are not enough, over all numbers of rounds.

    One gatherer lacks a kind in a share that is, for some kinds and some more, a number so many times multiplied by
    itself; so all such shares come together exactly.
    """
    lacks = []
    for some in all_some(shares)[1:]:
        sign = -(-1) ** len(some)
        lacks.append((sign, 1 - Fraction(sum(shares[kind] for kind in some), sum(shares))))
    one = sum(sign / (1 - rest) for sign, rest in lacks)
    both = sum(sign * other / (1 - rest * more) for (sign, rest), (other, more) in itertools.product(lacks, repeat=2))
    return 2 * one - both


def once_chance(shares, order, some):
    """In which share of the cases with this order of first coming none of some kinds comes again."""
    chance = Fraction(1)
    for come in range(len(order)):
        new = sum(shares[kind] for kind in order[come:])
        again = sum(shares[kind] for kind in order[:come] if kind in some)
        chance *= Fraction(shares[order[come]], new) * Fraction(new, new + again)
    return chance


def given_by_orders(shares):
    """The mean number that the second one lacks, and the share of one alone, by the orders of first coming."""
    mean = alone = Fraction(0)
    for order in itertools.permutations(range(len(shares))):
        for kind in order:
            mean += once_chance(shares, order, (kind,))
        others = order[:-1]
        for many in range(len(order)):
            for some in itertools.combinations(others, many):
                alone += (-1) ** many * once_chance(shares, order, some)
    return mean, alone


def given_led_on(shares):
    """The same, led on from the beginning by each draw that changes something."""
    chances = {(0,) * len(shares): Fraction(1)}
    mean = alone = Fraction(0)
    while chances:
        behind = {}
        for had, chance in chances.items():
            if 0 not in had:
                mean += chance * had.count(1)
                alone += chance * (had.count(1) == 1)
                continue
            weight = sum(share for share, often in zip(shares, had) if often < 2)
            for kind, often in enumerate(had):
                if often < 2:
                    then = had[:kind] + (often + 1,) + had[kind + 1:]
                    behind[then] = behind.get(then, 0) + chance * Fraction(shares[kind], weight)
        chances = behind
    return mean, alone


class RoundsMean(unittest.TestCase):

    def test_written_out(self):
        assert_told(self, (1, 1), rounds_mean, (7,), 1)
        assert_told(self, (1, 1), rounds_mean, (7,), 2)
        assert_told(self, (3, 1), rounds_mean, (1, 1), 1)
        # Of two even kinds: a round; then each lacks one, both lack it behind a round in 1 of 4 cases, one of them
        # in 2 of 4, which takes 2 rounds more: (4 + 2 * 2) / 3 = 8 / 3.
        assert_told(self, (11, 3), rounds_mean, (1, 1), 2)
        assert_told(self, (11, 3), rounds_mean, (9, 9), 2)

    def test_one_gatherer_alone_takes_the_mean(self):
        for shares in FEW:
            assert_told(self, mean_all(shares), rounds_mean, shares, 1)

    def test_two_by_the_rounds_that_are_not_enough(self):
        for shares in FEW + [(2, 7), (5, 4), (9, 8, 7), (1, 1, 9), (1, 9, 9)]:
            assert_told(self, pair(both_rounds(shares)), rounds_mean, shares, 2)

    def test_all_of_two_kinds(self):
        for shares in itertools.product(range(1, 10), repeat=2):
            self.assertEqual(rounds_mean(shares, 2), pair(both_rounds(shares)), shares)

    def test_two_take_no_less_than_one(self):
        for shares in FEW:
            self.assertFalse(is_less(rounds_mean(shares, 2), rounds_mean(shares, 1)))

    def test_no_number(self):
        for thing in NOT_ONE_OR_TWO:
            for shares in FEW[:4] + MORE[:2]:
                assert_refused(self, NoNumber, rounds_mean, shares, thing)


class TogetherMean(unittest.TestCase):

    def test_written_out(self):
        for share, many in itertools.product((1, 9), (1, 2, 3)):
            assert_told(self, (many, 1), together_mean, (share,), many)
        assert_told(self, (3, 1), together_mean, (1, 1), 1)
        assert_told(self, (11, 2), together_mean, (1, 1), 2)
        # Of 3 and 3: 1 draw; of 2 and 3 left: 1 draw, then 2 and 2, 11/2 draws, or 1 and 3: 1 draw, then 1 and 2, 9/2,
        # or 0 and 3, 6 draws.
        assert_told(self, (63, 8), together_mean, (1, 1), 3)

    def test_one_gatherer_alone_takes_the_mean(self):
        for shares in FEW:
            assert_told(self, mean_all(shares), together_mean, shares, 1)

    def test_each_kind_so_often(self):
        for shares in FEW:
            for many in (1, 2, 3):
                needs = (many,) * len(shares)
                assert_told(self, pair(last_met(shares, needs)), together_mean, shares, many)
                self.assertEqual(mean_needs(shares, needs), together_mean(shares, many))

    def test_two_together_take_no_more_than_both_have_by_rounds(self):
        for shares in FEW:
            both = multiplied((2, 1), rounds_mean(shares, 2))
            self.assertFalse(is_less(both, together_mean(shares, 2)))

    def test_no_number(self):
        for thing in NOT_ONE_TO_THREE:
            for shares in FEW[:4] + MORE[:2]:
                assert_refused(self, NoNumber, together_mean, shares, thing)


class Several(unittest.TestCase):

    def test_too_many(self):
        for shares in MORE:
            for many in (1, 2):
                assert_refused(self, TooMany, rounds_mean, shares, many)
            for many in (1, 2, 3):
                assert_refused(self, TooMany, together_mean, shares, many)

    def test_no_shares(self):
        for function in (rounds_mean, together_mean):
            for thing in NOT_SHARES:
                for many in (1, 2, 4, 0, True, False, None, thing):
                    assert_refused(self, NoShares, function, thing, many)

    def test_fractions(self):
        for shares in FEW:
            for told in (rounds_mean(shares, 2), together_mean(shares, 3)):
                self.assertTrue(is_fraction(told))


class Given(unittest.TestCase):

    def test_one_kind(self):
        for share in range(1, 10):
            assert_told(self, (1, 1), given_lacking, (share,))
            assert_told(self, (1, 1), given_share, (share,))

    def test_two_kinds(self):
        assert_told(self, (3, 2), given_lacking, (1, 1))
        assert_told(self, (1, 2), given_share, (1, 1))
        # First kind 0, in 1 of 3 cases: 2 to 1 that kind 1 comes ahead of kind 0 again. Else 1 to 2.
        assert_told(self, (13, 9), given_lacking, (1, 2))
        assert_told(self, (5, 9), given_share, (1, 2))

    def test_even_shares(self):
        for share in (1, 4, 9):
            for many, wanted in enumerate(((1, 1), (3, 2), (11, 6), (25, 12), (137, 60)), 1):
                assert_told(self, wanted, given_lacking, (share,) * many)

    def test_by_the_orders_of_first_coming(self):
        for shares in SHARES + [(9, 8, 7, 5, 3), (2, 7), (1, 1, 9), (5, 1, 5, 1)]:
            mean, alone = given_by_orders(shares)
            assert_told(self, pair(mean), given_lacking, shares)
            assert_told(self, pair(alone), given_share, shares)

    def test_led_on_from_the_beginning(self):
        for shares in SHARES:
            mean, alone = given_led_on(shares)
            assert_told(self, pair(mean), given_lacking, shares)
            assert_told(self, pair(alone), given_share, shares)

    def test_it_lacks_one_at_least(self):
        for shares in SHARES:
            self.assertFalse(is_less(given_lacking(shares), (1, 1)))
            self.assertTrue(is_fraction(given_share(shares)))
            self.assertEqual(given_share(shares) == (1, 1), given_lacking(shares) == (1, 1))

    def test_no_shares(self):
        for thing in NOT_SHARES:
            assert_refused(self, NoShares, given_lacking, thing)
            assert_refused(self, NoShares, given_share, thing)


if __name__ == "__main__":
    unittest.main()
