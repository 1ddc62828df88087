"""[1] to [6], over the whole program."""

import itertools
import unittest

from kindsgathered.buying import cost_paper, is_cost_paper, is_plan, plan_cost, plan_for
from kindsgathered.changes import evened, is_quicker, joined, named, parted
from kindsgathered.coming import all_share, just_cases, lacking, last_share, mean_all
from kindsgathered.desk import Desk
from kindsgathered.errors import NoKind, NoLine, NoNeeds, NoNumber, NoPlan, NoShares, NoText, TooMany
from kindsgathered.fractions import added, is_fraction, is_less, lessened, lowest, multiplied
from kindsgathered.gatherers import given_lacking, given_share, rounds_mean, together_mean
from kindsgathered.needs import are_needs, mean_any, mean_needs, needs_share
from kindsgathered.orders import ahead_chance, last_chances, mean_kinds, order_chance, twice_mean, unlike_share
from kindsgathered.packs import is_pack_paper, pack_cases, pack_many, pack_mean, pack_paper
from kindsgathered.papers import is_time_paper, over_bound, time_paper, under_bound
from kindsgathered.shares import is_shares, part, total
from kindsgathered.texts import read, show
from tests.things import BIG, NEVER, SHARES, refusal, text_of

THREE = (3, 1, 1)

PLAN = {some: "buy" for some in ((0,), (1,), (2,), (0, 1), (0, 2), (1, 2), (0, 1, 2))}


def say(line):
    """The answer of a new desk."""
    return Desk().say(line)


# Each function of the interface, right arguments, and the refusals that are told of it.
FUNCTIONS = [
    (is_fraction, ((1, 2),), ()), (lowest, (6, 8), (NoNumber,)), (added, ((1, 2), (1, 3)), (NoNumber,)),
    (lessened, ((1, 2), (1, 3)), (NoNumber,)), (multiplied, ((1, 2), (1, 3)), (NoNumber,)),
    (is_less, ((1, 2), (1, 3)), (NoNumber,)), (is_shares, (THREE,), ()), (total, (THREE,), (NoShares,)),
    (part, (THREE, (0, 1)), (NoShares, NoKind)), (show, (THREE,), (NoShares,)), (read, ("3 1 1",), (NoText,)),
    (just_cases, (THREE, (0, 1), 2), (NoShares, NoKind, NoNumber)), (all_share, (THREE, 3), (NoShares, NoNumber)),
    (last_share, (THREE, 3), (NoShares, NoNumber)), (lacking, (THREE, 3), (NoShares, NoNumber)),
    (mean_all, (THREE,), (NoShares,)), (is_time_paper, (time_paper(THREE), THREE), (NoShares,)),
    (time_paper, (THREE,), (NoShares,)), (over_bound, (time_paper(THREE), THREE), (NoShares,)),
    (under_bound, (time_paper(THREE), THREE), (NoShares,)), (are_needs, ((2, 1, 0), THREE), (NoShares,)),
    (mean_needs, (THREE, (2, 1, 0)), (NoShares, NoNeeds, TooMany)),
    (needs_share, (THREE, (2, 1, 0), 4), (NoShares, NoNeeds, NoNumber, TooMany)),
    (mean_any, (THREE, (2, 1, 3)), (NoShares, NoNeeds, TooMany)), (pack_many, (4, 2), (NoNumber,)),
    (pack_cases, (4, 2, 3), (NoNumber,)), (pack_mean, (4, 2), (NoNumber,)),
    (is_pack_paper, (pack_paper(4, 2), 4, 2), (NoNumber,)), (pack_paper, (4, 2), (NoNumber,)),
    (order_chance, (THREE, (1, 0, 2)), (NoShares, NoKind)), (last_chances, (THREE,), (NoShares,)),
    (ahead_chance, (THREE, 0, 1), (NoShares, NoKind)), (unlike_share, (THREE, 2), (NoShares, NoNumber)),
    (twice_mean, (THREE,), (NoShares,)), (mean_kinds, (THREE, 2), (NoShares, NoNumber)),
    (rounds_mean, (THREE, 2), (NoShares, NoNumber, TooMany)),
    (together_mean, (THREE, 2), (NoShares, NoNumber, TooMany)), (given_lacking, (THREE,), (NoShares,)),
    (given_share, (THREE,), (NoShares,)), (is_plan, (PLAN, THREE), (NoShares,)),
    (plan_cost, (THREE, 4, PLAN), (NoShares, NoNumber, NoPlan)),
    (is_cost_paper, (cost_paper(THREE, 4), THREE, 4), (NoShares, NoNumber)),
    (cost_paper, (THREE, 4), (NoShares, NoNumber)), (plan_for, (THREE, 4), (NoShares, NoNumber)),
    (joined, (THREE, 0, 1), (NoShares, NoKind, TooMany)),
    (parted, (THREE, 0, 1), (NoShares, NoKind, NoNumber, TooMany)),
    (evened, (THREE, 0, 1), (NoShares, NoKind, NoNumber)), (named, (THREE, (1, 0, 2)), (NoShares, NoKind)),
    (is_quicker, (THREE, (1, 1)), (NoShares,)), (say, ("told",), (NoLine,)),
]

THINGS = NEVER + SHARES + [
    0, 1, 2, -1, 13, BIG, -BIG, (), (0,), (0, 1), (1, 0, 2), (1, 2), (2, 4), "told", "got 9", "back", time_paper(THREE), PLAN,
    pack_paper(4, 2)]


def within(thing):
    """Each list and dict that stands in a thing, the thing itself too."""
    found = [thing] if isinstance(thing, (list, dict)) else []
    if isinstance(thing, (list, tuple, dict)):
        for each in thing.values() if isinstance(thing, dict) else thing:
            found += within(each)
    return found


class WholeProgram(unittest.TestCase):

    def test_right_arguments_are_answered(self):
        for function, args, refusals in FUNCTIONS:
            self.assertIsNone(refusal(function, *args), function.__name__)

    def test_one_argument_of_whatever_kind_has_an_answer_or_a_refusal_that_is_told(self):
        for function, args, refusals in FUNCTIONS:
            for at, thing in itertools.product(range(len(args)), THINGS):
                error = refusal(function, *args[:at], thing, *args[at + 1:])
                if function is not say or thing != "got 9" and thing != "back":
                    self.assertIn(error.__class__, (type(None), *refusals), (function.__name__, at, thing))

    def test_all_arguments_of_whatever_kind_have_the_refusal_that_goes_first(self):
        for function, args, refusals in FUNCTIONS:
            for thing in NEVER:
                error = refusal(function, *[thing] * len(args))
                if refusals and not (isinstance(thing, str) and function is read):
                    self.assertIs(error.__class__, refusals[0], (function.__name__, thing))

    def test_the_same_asked_again_has_the_same_answer(self):
        ahead = [text_of(function(*args)) for function, args, refusals in FUNCTIONS]
        behind = [text_of(function(*args)) for function, args, refusals in reversed(FUNCTIONS)]
        self.assertEqual(ahead, behind[::-1])

    def test_each_list_and_dict_that_is_told_is_new(self):
        for function, args, refusals in FUNCTIONS:
            one, other = within(function(*args)), within(function(*args))
            kept = {id(thing) for thing in itertools.chain(*map(within, args))}
            self.assertEqual({id(thing) for thing in one} & {id(thing) for thing in other}, set())
            self.assertEqual({id(thing) for thing in one} & kept, set())

    def test_what_was_told_is_handed_in_again_whatever_its_size(self):
        number = mean_all((7, 8, 9, 5, 3))
        for step in range(8):
            number = added(multiplied(number, number), (1, 7))
        self.assertGreater(number[1], 10 ** 300)
        self.assertTrue(is_fraction(number))
        self.assertEqual(lessened(number, number), (0, 1))
        self.assertFalse(is_less(number, number))
        self.assertEqual(lowest(number[0], number[1]), number)
        paper = {**time_paper(THREE), (0, 1, 2): number}
        self.assertEqual(over_bound(paper, THREE), number)
        self.assertIsNone(under_bound(paper, THREE))
        self.assertFalse(is_cost_paper(paper, THREE, 99))
        self.assertFalse(is_pack_paper([(0, 1), number], 1, 1))

    def test_changed_shares_are_shares(self):
        shares = parted(parted(named(evened((9, 1), 0, 1), (1, 0)), 1, 3), 1, 1)
        self.assertEqual(shares, (2, 1, 5, 2))
        self.assertEqual(read(show(shares)), shares)
        self.assertEqual(Desk().say("shares " + show(joined(shares, 0, 3))), "0 1 2")


if __name__ == "__main__":
    unittest.main()
