"""[13], and [2], [3], [4], [5] as far as they reach texts."""

import itertools
import unittest

from kindsgathered.errors import NoShares, NoText
from kindsgathered.shares import is_shares
from kindsgathered.texts import read, show
from tests.things import BIG, NEVER, NOT_SHARES, SHARES, assert_refused, assert_told, refusal

# What is no number from 1 to 9 as it is written, and has no blank.
NOT_WORDS = [
    "0", "10", "11", "99", "01", "09", "00", "+1", "-1", "1.", "1.0", ".1", "1,", "1_1", "a", "A", "x", "one", "I", "1a",
    "a1", "/", "1/1", ":", "\t", "\n", "1\t", "\t1", "1\n", "\r", "1\r", "1\x0b", "\x0c1", "1\x00", "\x00", "(1)", "[1]",
    "'1'", "None", "True", "False", "9" * 60, "1\t1", "1\n1", "12", "123456789",
]

NOT_TEXTS = [thing for thing in NEVER if not isinstance(thing, str)] + SHARES + [
    0, 1, 3, 9, -1, BIG, (), (0,), ("3 1 1",), ["3 1 1"], {"3 1 1": True}, {"text": "3 1 1"}, ["3", "1", "1"],
    ("3", "1", "1"),
]


class Show(unittest.TestCase):

    def test_written_out(self):
        assert_told(self, "1", show, (1,))
        assert_told(self, "9", show, (9,))
        assert_told(self, "1 9", show, (1, 9))
        assert_told(self, "3 1 1", show, (3, 1, 1))
        assert_told(self, "1 2 3 4", show, (1, 2, 3, 4))
        assert_told(self, "9 8 7 6 5", show, (9, 8, 7, 6, 5))

    def test_no_shares(self):
        for thing in NOT_SHARES:
            assert_refused(self, NoShares, show, thing)
        for shares in SHARES:
            assert_refused(self, NoShares, show, list(shares))
            assert_refused(self, NoShares, show, show(shares))


class Read(unittest.TestCase):

    def assert_wrong_at(self, at, thing):
        assert_refused(self, NoText, read, thing)
        # By their texts, as False would pass for 0.
        self.assertEqual(repr(refusal(read, thing).at), repr(at), repr(thing))

    def test_written_out(self):
        assert_told(self, (1,), read, "1")
        assert_told(self, (9,), read, "9")
        assert_told(self, (1, 9), read, "1 9")
        assert_told(self, (3, 1, 1), read, "3 1 1")
        assert_told(self, (1, 2, 3, 4), read, "1 2 3 4")
        assert_told(self, (9, 8, 7, 6, 5), read, "9 8 7 6 5")

    def test_what_is_written_is_read_to_the_same(self):
        for many in range(1, 4):
            for shares in itertools.product(range(1, 10), repeat=many):
                self.assertEqual(read(show(shares)), shares)
        for shares in SHARES:
            assert_told(self, shares, read, show(shares))

    def test_what_is_read_is_written_to_the_same(self):
        signs = "0159a- "
        for many in range(6):
            for text in map("".join, itertools.product(signs, repeat=many)):
                error = refusal(read, text)
                words = text.split(" ")
                wrong = [at for at, word in enumerate(words) if word not in ("1", "5", "9") or at == 5]
                if wrong:
                    self.assertIs(error.__class__, NoText, text)
                    self.assertEqual(error.at, wrong[0], text)
                else:
                    self.assertTrue(is_shares(read(text)))
                    self.assertEqual(show(read(text)), text)

    def test_empty_and_blanks(self):
        for at, text in [
                (0, ""), (0, " "), (0, "  "), (0, " " * 60), (0, " 1"), (0, " 3 1 1"), (0, "  1"), (1, "1 "), (1, "1  "),
                (1, "1  1"), (1, "3  1 1"), (2, "3 1  1"), (3, "3 1 1 "), (3, "3 1 1  "), (2, "3 1  "), (5, "1 1 1 1 1 "),
                (4, "1 1 1 1 "), (4, "1 1 1 1  1"), (5, "1 1 1 1 1  ")]:
            self.assert_wrong_at(at, text)

    def test_a_wrong_word_at_each_place(self):
        for many in range(1, 6):
            for at in range(many):
                for word in NOT_WORDS:
                    words = ["3"] * at + [word] + ["1"] * (many - at - 1)
                    self.assert_wrong_at(at, " ".join(words))

    def test_the_first_wrong_word_counts(self):
        self.assert_wrong_at(0, "0 0 0")
        self.assert_wrong_at(1, "1 0  10 x")
        self.assert_wrong_at(2, "1 1 x  ")
        self.assert_wrong_at(3, "9 9 9 a 9 9 9")
        self.assert_wrong_at(4, "1 1 1 1 0 1")

    def test_the_sixth_word(self):
        for text in ("1 1 1 1 1 1", "1 2 3 4 5 6", "1 1 1 1 1 1 1", "1 1 1 1 1 0", "1 1 1 1 1 x", "9 9 9 9 9 10 0",
                     " ".join("1" * 30)):
            self.assert_wrong_at(5, text)

    def test_another_blank_parts_nothing(self):
        self.assert_wrong_at(0, "3\t1\t1")
        self.assert_wrong_at(0, "3\n1 1")
        self.assert_wrong_at(1, "3 1\n1")
        self.assert_wrong_at(2, "3 1 1\n")
        self.assert_wrong_at(0, "\n3 1 1")

    def test_what_is_no_text(self):
        for thing in NOT_TEXTS:
            self.assert_wrong_at(0, thing)


if __name__ == "__main__":
    unittest.main()
