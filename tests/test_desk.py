"""[101], [102], and [3], [4], [5] as far as they reach a desk."""

import itertools
import unittest
from fractions import Fraction

from kindsgathered.buying import cost_paper, plan_for
from kindsgathered.desk import Desk
from kindsgathered.errors import NoKind, NoLine, NoNumber
from kindsgathered.papers import time_paper
from tests.things import BIG, NEVER, SHARES, all_some, refusal

ASKED = (
    "told", "left", "drawn", "mean", "next", "all 0", "all 1", "all 5", "all 12", "buy 0", "buy 1", "buy 4", "buy 99")

NOT_SHARES_TEXTS = [
    "", " ", "0", "10", "01", "1 ", " 1", "1  1", "1 1 1 1 1 1", "1 0", "a", "1 a", "1,1", "+1", "-1", "1 1 ", "1\t1", "1.0",
    "(1, 1)", "shares", "1\n", "\n", "1 10", "none",
]

NOT_FIGURES = [
    "", " ", "10", "00", "01", "a", "-1", "+1", "0 ", " 0", "0 0", "0\n", "\t0", "k", "K", "none", "True", "0.", "1_0", "x0",
]

NOT_NUMBERS = [
    "", " ", "00", "01", "09", "012", "100", "120", "999", "a", "-1", "+1", "0 ", " 0", "1 1", "1\n", "\t1", "N", "none",
    "1.0", "1_0", "0x1", "1/1", "1" * 50,
]

# Lines that are told otherwise in one thing.
NOT_LINES = [
    "", " ", "  ", "shares", "got", "all", "buy", "shares 3 1 1 ", " shares 3 1 1", "shares  3 1 1", "Shares 3 1 1",
    "SHARES 3 1 1", "share 3 1 1", "shares3 1 1", "shares\t3 1 1", "shares 3 1  1", "got0", "got  0", " got 0", "got 0 ",
    "Got 0", "gots 0", "get 0", "got\t0", "back ", " back", "Back", "BACK", "backs", "back 0", "back 1", "back back",
    "told ", " told", "Told", "tell", "told 0", "left ", " left", "Left", "lefts", "left 0", "drawn ", " drawn", "Drawn",
    "draw", "drawn 0", "mean ", " mean", "Mean", "means", "mean 0", "next ", " next", "Next", "next 1", "all1", "all  1",
    " all 1", "all 1 ", "All 1", "alls 1", "all\t1", "buy1", "buy  1", " buy 1", "buy 1 ", "Buy 1", "buys 1", "buy\t1",
    "none", "0", "1", "3 1 1", "1/1", "told\n", "left\n", "\nleft", "mean\t", "told told", "told left", "lef t", "~" * 60,
    "all one", "buy two", "got zero", "back\n", "shares 3 1 1\n", "say", "put", "pages",
]


def desk_told(*lines):
    """A desk that was told these lines."""
    desk = Desk()
    for line in lines:
        desk.say(line)
    return desk


def asked(desk):
    """All that a desk answers now."""
    return [desk.say(line) for line in ASKED]


def shares_line(shares):
    return "shares " + " ".join(map(str, shares))


def kinds_text(kinds):
    return " ".join(map(str, kinds)) if kinds else "none"


def left_of(shares, drawn):
    return tuple(kind for kind in range(len(shares)) if kind not in drawn)


def fraction_text(worth):
    return f"{worth.numerator}/{worth.denominator}"


def all_come(shares, left, number):
    """In which share of the cases so many draws bring all that are left, by those that lack some of them."""
    share = Fraction(0)
    for some in all_some(shares):
        if set(some) <= set(left):
            rest = 1 - Fraction(sum(shares[kind] for kind in some), sum(shares))
            share += (-1) ** len(some) * rest ** number
    return share


def all_come_gone_through(shares, left, number):
    one_draw = [kind for kind, share in enumerate(shares) for again in range(share)]
    rows = list(itertools.product(one_draw, repeat=number))
    return Fraction(sum(set(left) <= set(row) for row in rows), len(rows))


def rows_of(shares):
    """Some rows of draws, from none to all kinds, some of them again."""
    kinds = tuple(range(len(shares)))
    rows = [kinds[:many] for many in range(len(kinds) + 1)]
    return rows + [kinds[::-1][:many] * 2 for many in range(1, len(kinds) + 1)] + [(kinds[-1],) * 12]


class Answers(unittest.TestCase):

    def assert_answers(self, desk, wanted):
        for line, answer in wanted.items():
            told = desk.say(line)
            self.assertIs(told.__class__, str)
            self.assertEqual(told, answer, line)

    def assert_refused(self, wanted, desk, line):
        """Refused with just this class, and nothing is changed by it."""
        ahead = asked(desk)
        error = refusal(desk.say, line)
        self.assertIs(error.__class__, wanted, repr(line))
        self.assertEqual(asked(desk), ahead)


class Asked(Answers):

    def test_at_first(self):
        self.assert_answers(Desk(), {
            "told": "1", "left": "0", "drawn": "0", "mean": "1/1", "next": "1/1", "all 0": "0/1", "all 1": "1/1",
            "all 12": "1/1", "buy 0": "0/1 buy", "buy 1": "1/1 buy", "buy 2": "1/1 draw", "buy 99": "1/1 draw"})

    def test_the_first_kind_drawn(self):
        desk = Desk()
        self.assertEqual(desk.say("got 0"), "none")
        self.assert_answers(desk, {
            "told": "1", "left": "none", "drawn": "1", "mean": "0/1", "next": "0/1", "all 0": "1/1", "all 12": "1/1",
            "buy 0": "0/1 none", "buy 99": "0/1 none"})

    def test_written_out(self):
        desk = Desk()
        self.assertEqual(desk.say("shares 3 1 1"), "0 1 2")
        self.assert_answers(desk, {
            "told": "3 1 1", "left": "0 1 2", "drawn": "0 0 0", "mean": "23/3", "next": "1/1", "all 2": "0/1",
            "all 3": "18/125", "buy 4": "203/30 draw", "buy 0": "0/1 buy"})
        self.assertEqual(desk.say("got 0"), "1 2")
        self.assertEqual(desk.say("got 0"), "1 2")
        self.assert_answers(desk, {
            "told": "3 1 1", "left": "1 2", "drawn": "2 0 0", "mean": "15/2", "next": "2/5", "all 0": "0/1",
            "all 1": "0/1", "all 2": "2/25", "buy 4": "13/2 draw", "buy 2": "4/1 buy", "buy 99": "15/2 draw"})
        self.assertEqual(desk.say("got 2"), "1")
        self.assert_answers(desk, {
            "left": "1", "drawn": "2 0 1", "mean": "5/1", "next": "1/5", "all 1": "1/5", "all 2": "9/25",
            "buy 5": "5/1 buy", "buy 6": "5/1 draw"})
        self.assertEqual(desk.say("got 1"), "none")
        self.assert_answers(desk, {
            "told": "3 1 1", "left": "none", "drawn": "2 1 1", "mean": "0/1", "next": "0/1", "all 0": "1/1",
            "all 12": "1/1", "buy 4": "0/1 none"})

    def test_each_answer(self):
        for shares in SHARES:
            for row in rows_of(shares):
                desk = desk_told(shares_line(shares), *[f"got {kind}" for kind in row])
                left = left_of(shares, row)
                weight = sum(shares[kind] for kind in left)
                mean = Fraction(*time_paper(shares)[left])
                wanted = {
                    "told": " ".join(map(str, shares)), "left": kinds_text(left), "mean": fraction_text(mean),
                    "drawn": " ".join(str(row.count(kind)) for kind in range(len(shares))),
                    "next": fraction_text(Fraction(weight, sum(shares))),
                }
                for number in range(13):
                    wanted[f"all {number}"] = fraction_text(all_come(shares, left, number))
                for price in (0, 1, 2, 3, 5, 9, 10, 50, 99):
                    cost = fraction_text(Fraction(*cost_paper(shares, price)[left]))
                    wanted[f"buy {price}"] = cost + " " + (plan_for(shares, price)[left] if left else "none")
                self.assert_answers(desk, wanted)

    def test_each_price(self):
        desk = desk_told("shares 9 1 1", "got 0")
        for price in range(100):
            cost = fraction_text(Fraction(*cost_paper((9, 1, 1), price)[(1, 2)]))
            self.assertEqual(desk.say(f"buy {price}"), cost + " " + plan_for((9, 1, 1), price)[(1, 2)])

    def test_all_by_going_through_all_cases(self):
        for shares, row in (((1, 1), (0,)), ((1, 2, 1), (1,)), ((1, 2, 1), ()), ((1, 1, 1, 1), (0, 3))):
            desk = desk_told(shares_line(shares), *[f"got {kind}" for kind in row])
            for number in range(6):
                wanted = fraction_text(all_come_gone_through(shares, left_of(shares, row), number))
                self.assertEqual(desk.say(f"all {number}"), wanted)

    def test_what_is_asked_changes_nothing(self):
        for lines in ((), ("got 0",), ("shares 3 1 1",), ("shares 3 1 1", "got 1"), ("shares 2 2", "got 1", "got 0")):
            desk = desk_told(*lines)
            ahead = asked(desk)
            for line in ASKED:
                desk.say(line)
                self.assertEqual(asked(desk), ahead)
            for line in lines:
                desk.say("back")
            self.assertEqual(asked(desk), asked(Desk()))
            self.assert_refused(NoNumber, desk, "back")


class Told(Answers):

    def test_shares_hold_from_then_on_and_no_kind_is_drawn(self):
        desk = Desk()
        for shares in SHARES:
            desk.say("got 0")
            self.assertEqual(desk.say(shares_line(shares)), kinds_text(range(len(shares))))
            self.assertEqual(asked(desk), asked(desk_told(shares_line(shares))))
            self.assertEqual(desk.say("drawn"), " ".join("0" * len(shares)))

    def test_the_same_shares_again(self):
        desk = desk_told("shares 3 1 1", "got 1")
        self.assertEqual(desk.say("shares 3 1 1"), "0 1 2")
        self.assertEqual(desk.say("drawn"), "0 0 0")
        self.assertEqual(desk.say("back"), "0 2")

    def test_got_is_answered_by_the_kinds_that_are_left(self):
        for shares in SHARES:
            for row in rows_of(shares):
                desk = desk_told(shares_line(shares))
                for at, kind in enumerate(row):
                    self.assertEqual(desk.say(f"got {kind}"), kinds_text(left_of(shares, row[:at + 1])))

    def test_more_than_ten_of_a_kind(self):
        desk = desk_told("shares 1 1", *["got 1"] * 123)
        self.assertEqual(desk.say("drawn"), "0 123")

    def test_no_kind(self):
        for shares in SHARES:
            desk = desk_told(shares_line(shares))
            for figure in range(10):
                if figure >= len(shares):
                    self.assert_refused(NoKind, desk, f"got {figure}")
        self.assert_refused(NoKind, Desk(), "got 1")
        self.assert_refused(NoKind, Desk(), "got 9")

    def test_all_above_12(self):
        for desk in (Desk(), desk_told("got 0"), desk_told("shares 3 1 1", "got 0")):
            for number in range(13, 100):
                self.assert_refused(NoNumber, desk, f"all {number}")


class Back(Answers):

    def test_nothing_stands(self):
        self.assert_refused(NoNumber, Desk(), "back")

    def test_the_last_that_stands_is_undone(self):
        desk = desk_told("got 0", "shares 3 1 1", "got 1", "got 1", "shares 2 2", "got 0")
        self.assertEqual(desk.say("back"), "0 1")
        self.assertEqual(desk.say("told"), "2 2")
        self.assertEqual(desk.say("back"), "0 2")
        self.assertEqual(desk.say("drawn"), "0 2 0")
        self.assertEqual(desk.say("back"), "0 2")
        self.assertEqual(desk.say("drawn"), "0 1 0")
        self.assertEqual(desk.say("back"), "0 1 2")
        self.assertEqual(desk.say("back"), "none")
        self.assertEqual(desk.say("told"), "1")
        self.assertEqual(desk.say("back"), "0")
        self.assert_refused(NoNumber, desk, "back")
        self.assertEqual(asked(desk), asked(Desk()))

    def test_as_if_it_had_not_been_told(self):
        lines = ["got 0", "shares 1 2 3 4 5", "got 4", "got 0", "got 4", "shares 9", "got 0", "shares 1 1", "got 1", "got 0"]
        desks = [desk_told(*lines[:many]) for many in range(len(lines) + 1)]
        answers = [asked(desk) for desk in desks]
        for many, desk in enumerate(desks):
            for behind in range(many - 1, -1, -1):
                self.assertEqual(desk.say("back"), answers[behind][1])
                self.assertEqual(asked(desk), answers[behind])
            self.assert_refused(NoNumber, desk, "back")

    def test_told_anew_behind_it(self):
        desk = desk_told("shares 1 1", "got 0", "got 1", "back", "got 0", "back", "back", "got 1")
        self.assertEqual(asked(desk), asked(desk_told("shares 1 1", "got 1")))
        self.assertEqual(desk.say("back"), "0 1")
        self.assertEqual(desk.say("back"), "0")
        self.assert_refused(NoNumber, desk, "back")

    def test_what_was_refused_leaves_nothing_to_be_undone(self):
        desk = desk_told("shares 3 1 1", "got 2")
        for line, wanted in (
                ("got 3", NoKind), ("got 9", NoKind), ("all 13", NoNumber), ("shares 3 0 1", NoLine), ("shares", NoLine),
                ("got 10", NoLine), ("back ", NoLine), (None, NoLine), (["got 0"], NoLine)):
            self.assert_refused(wanted, desk, line)
        self.assertEqual(desk.say("back"), "0 1 2")
        self.assertEqual(desk.say("back"), "0")
        for again in range(3):
            self.assert_refused(NoNumber, desk, "back")
        self.assertEqual(desk.say("got 0"), "none")
        self.assertEqual(desk.say("back"), "0")


class Lines(Answers):

    def desks(self):
        return (Desk(), desk_told("shares 3 1 1", "got 0"), desk_told("shares 1 2", "got 0", "got 1"))

    def test_no_line(self):
        for desk in self.desks():
            for line in NOT_LINES:
                self.assert_refused(NoLine, desk, line)

    def test_no_shares_behind_shares(self):
        for desk in self.desks():
            for text in NOT_SHARES_TEXTS:
                self.assert_refused(NoLine, desk, "shares " + text)

    def test_no_figure_behind_got(self):
        for desk in self.desks():
            for text in NOT_FIGURES:
                self.assert_refused(NoLine, desk, "got " + text)

    def test_no_number_behind_all_and_buy(self):
        for desk in self.desks():
            for text in NOT_NUMBERS:
                self.assert_refused(NoLine, desk, "all " + text)
                self.assert_refused(NoLine, desk, "buy " + text)

    def test_one_sign_more_or_less(self):
        lines = ["shares 3 1 1", "got 0", "back", "told", "left", "drawn", "mean", "next", "all 7", "buy 7"]
        desk = desk_told("shares 3 1 1", "got 0")
        for line in lines:
            for at, sign in itertools.product(range(len(line) + 1), " 0Aa\n"):
                turned = line[:at] + sign + line[at:]
                if turned not in ("all 70", "buy 70"):
                    self.assert_refused(NoLine, desk, turned)
            for at in range(len(line)):
                self.assert_refused(NoLine, desk, line[:at] + line[at + 1:])

    def test_what_is_no_text(self):
        things = [thing for thing in NEVER if not isinstance(thing, str)] + [
            0, 1, -1, BIG, ("told",), ["told"], {"told": "told"}, ("got", 0), ["shares", 3, 1, 1], (3, 1, 1), [["back"]]]
        for desk in self.desks():
            for thing in things:
                self.assert_refused(NoLine, desk, thing)

    def test_no_line_goes_ahead_of_all_else(self):
        # Each of these would be refused otherwise, were it a line.
        for line in ("got 9 ", " got 9", "got 99", "back ", "all 13 ", "all 013", "all 100"):
            self.assert_refused(NoLine, Desk(), line)


class TwoDesks(Answers):

    def test_they_have_nothing_in_common(self):
        one, other = Desk(), Desk()
        ahead = asked(other)
        one.say("shares 3 1 1")
        one.say("got 1")
        self.assertEqual(asked(other), ahead)
        self.assert_refused(NoNumber, other, "back")
        other.say("shares 2 2")
        self.assertEqual(asked(one), asked(desk_told("shares 3 1 1", "got 1")))
        one.say("back")
        self.assertEqual(asked(other), asked(desk_told("shares 2 2")))
        self.assertEqual(asked(Desk()), ahead)

    def test_the_same_lines_have_the_same_answers(self):
        lines = ["shares 1 2 3", "got 2", *ASKED, "got 0", *ASKED, "back", *ASKED, "back", "back"]
        one, other = Desk(), Desk()
        self.assertEqual([one.say(line) for line in lines], [other.say(line) for line in lines])


if __name__ == "__main__":
    unittest.main()
