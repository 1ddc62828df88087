"""A desk: it is told lines and answers with texts."""

from kindsgathered.buying import cost_paper, plan_for
from kindsgathered.coming import check_draws
from kindsgathered.errors import NoLine, NoNumber, NoText
from kindsgathered.needs import met_share
from kindsgathered.papers import time_paper
from kindsgathered.shares import check_kind, part
from kindsgathered.texts import read, show

MOST_FIGURE = 9
MOST_OF_TWO_FIGURES = 99


def read_shares(text):
    """The shares that stand behind a line's first word."""
    try:
        return read(text)
    except NoText:
        raise NoLine("this is no line: no shares stand in it") from None


def read_number(text, most):
    """The number that stands behind a line's first word."""
    if text not in [str(number) for number in range(most + 1)]:
        raise NoLine("this is no line: no such number stands in it")
    return int(text)


def left_kinds(drawn):
    """The kinds that have not been drawn, by how often each has."""
    return tuple([kind for kind, often in enumerate(drawn) if often == 0])


def fraction_text(number):
    """The text of a fraction."""
    return f"{number[0]}/{number[1]}"


def numbers_text(numbers):
    """The text of some numbers."""
    return " ".join([str(number) for number in numbers])


def left_text(drawn):
    """The text of the kinds that are left."""
    if len(left_kinds(drawn)) == 0:
        return "none"
    return numbers_text(left_kinds(drawn))


def all_text(shares, drawn, number):
    """The text of the share of the cases in which all have come behind so many draws more."""
    check_draws(number)
    needs = tuple([1 if often == 0 else 0 for often in drawn])
    return fraction_text(met_share(shares, needs, number))


def buy_text(shares, left, price):
    """The text of the least mean cost, and of what is done for it."""
    if len(left) == 0:
        return "0/1 none"
    return fraction_text(cost_paper(shares, price)[left]) + " " + plan_for(shares, price)[left]


def answer(line, shares, drawn):
    """The answer to a line that asks."""
    if line == "told":
        return show(shares)
    if line == "left":
        return left_text(drawn)
    if line == "drawn":
        return numbers_text(drawn)
    if line == "mean":
        return fraction_text(time_paper(shares)[left_kinds(drawn)])
    if line == "next":
        return fraction_text(part(shares, left_kinds(drawn)))
    word, blank, rest = line.partition(" ")
    if word == "all":
        return all_text(shares, drawn, read_number(rest, MOST_OF_TWO_FIGURES))
    if word == "buy":
        return buy_text(shares, left_kinds(drawn), read_number(rest, MOST_OF_TWO_FIGURES))
    raise NoLine("this is no line: no such word begins it")


class Desk:
    """It keeps shares, and how often each kind has been drawn."""

    def __init__(self):
        # What holds now stands last; ahead of it stands all that `back` may lead to.
        self.pages = [((1,), (0,))]

    def say(self, line):
        """The answer to a line."""
        if not isinstance(line, str):
            raise NoLine("this is no line: it is no text")
        word, blank, rest = line.partition(" ")
        if word == "shares":
            return self.put_shares(read_shares(rest))
        if word == "got":
            return self.put_kind(read_number(rest, MOST_FIGURE))
        if line == "back":
            return self.put_back()
        shares, drawn = self.pages[-1]
        return answer(line, shares, drawn)

    def put_shares(self, shares):
        """Keep these shares from now on, and no kind drawn."""
        return self.put_page(shares, tuple([0 for share in shares]))

    def put_kind(self, kind):
        """Keep that a kind is drawn."""
        shares, drawn = self.pages[-1]
        check_kind(kind, shares)
        return self.put_page(shares, drawn[:kind] + (drawn[kind] + 1,) + drawn[kind + 1:])

    def put_page(self, shares, drawn):
        """Keep what holds from now on."""
        self.pages.append((shares, drawn))
        return left_text(drawn)

    def put_back(self):
        """Undo the last one that stands."""
        if len(self.pages) == 1:
            raise NoNumber("nothing stands that could be undone")
        self.pages.pop()
        shares, drawn = self.pages[-1]
        return left_text(drawn)
