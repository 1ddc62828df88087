"""Things of whatever kind, and how the tests ask about them."""

import copy
import itertools
from fractions import Fraction

from kindsgathered.errors import (
    GatherError, NoKind, NoLine, NoNeeds, NoNumber, NoPlan, NoShares, NoText, TooMany)

CLASSES = (NoShares, NoKind, NoNumber, NoNeeds, NoPlan, TooMany, NoLine, NoText)

BIG = 10 ** 59 + 7

# None of these is a number, a fraction, shares, or some kinds.
NEVER = [
    None, True, False, "", "1", "0", "3 1 1", "1/2", "(1, 2)", "abc", " " * 60, "~" * 60,
    [], [1], [0], [1, 2], [3, 1, 1], [(1, 2)], [[1], [2]], [None], ["a"],
    {}, {0: 1}, {1: 2}, {(): (0, 1)}, {"top": 1, "bottom": 2}, {1: 2, 3: 4}, {(1, 2): [1, 2]},
    (True,), (False,), (True, 2), (1, True), (False, 1), (True, True), (False, True), (0, True),
    (None,), (None, None), (1, None), (None, 1), ("1",), ("1", "2"), (1, "2"), ("1", 2), ("a", 1), (1, "a"),
    ((1,),), ((1, 2),), ((1, 2), (1, 2)), (1, (2,)), ((1,), 2), ((), ()), ((),), ([],), ([1], [2]), ([1], 2), (1, [2]),
    ({},), ({}, {}), (1, {}), ({1: 2}, 1), ((((((1, 2),),),),),), [[[[[[1]]]]]], {1: {1: {1: {1: {1: {}}}}}},
    (3, 1, True), (True, 1, 3), (3, 1, None), (3, "1", 1), (3, (1, 1)), (3, [1], 1), (0, 1, True), (0, 1, None),
    (0, 1, "2"), (0, (1,), 2), (BIG, "a"), (None, BIG), (-1, -2, -3, -4, -5, -6), (1, 2, 3, 4, 5, "6"),
]

# Right shares, of one kind to five.
SHARES = [
    (1,), (9,), (5,), (1, 1), (1, 9), (9, 1), (3, 1, 1), (1, 2, 3), (3, 2, 1), (4, 4, 4), (1, 2, 3, 4), (9, 9, 9, 9),
    (1, 1, 1, 1, 1), (9, 9, 9, 9, 9), (1, 2, 3, 4, 5), (9, 1, 9, 1, 9),
]

NOT_SHARES = NEVER + [
    0, 1, 5, -1, BIG, (), (0,), (10,), (-1,), (BIG,), (-BIG,), (1, 0), (0, 1), (1, 10), (10, 1), (1, -1), (3, 1, 0),
    (3, 10, 1), (1, 1, 1, 1, 0), (1, 1, 1, 1, 10), (1, 1, 1, 1, 1, 1), (9, 9, 9, 9, 9, 9), (1,) * 7, (1,) * 60, (0,) * 5,
]

# None of these is some kinds of three kinds.
NOT_KINDS_OF_THREE = NEVER + [
    0, 1, 2, 3, -1, BIG, (3,), (4,), (-1,), (BIG,), (-BIG,), (0, 3), (-1, 0), (0, 1, 3), (-1, 0, 1), (0, 1, 2, 3),
    (0, 0), (1, 1), (2, 2), (0, 0, 1), (0, 1, 1), (0, 1, 2, 2), (1, 0), (2, 1), (2, 0), (0, 2, 1), (1, 0, 2), (2, 1, 0),
    [0, 1], [0, 1, 2], [2], {0: True, 1: True}, (0, True), (False, 1), (False, True), (0, 1, "2"), ((0, 1),), (0, (1,)),
    "0 1", "01",
]

# None of these is a kind of three kinds.
NOT_A_KIND_OF_THREE = NEVER + [-1, -3, 3, 4, 9, BIG, -BIG, (), (0,), (1,), (2,), (0, 1, 2)]

# None of these is a tuple of all of three kinds, each once.
NOT_ORDERS_OF_THREE = NEVER + [
    0, 1, 2, 3, -1, BIG, (), (0,), (2,), (0, 1), (2, 1), (0, 1, 3), (3, 2, 1), (-1, 0, 1), (0, 0, 1), (0, 1, 1), (2, 2, 2),
    (0, 1, 2, 2), (0, 1, 2, 3), (0, 1, 2, 0), (BIG, 0, 1), [0, 1, 2], [2, 1, 0], {0: 0, 1: 1, 2: 2}, (0, True, 2),
    (False, 1, 2), (2, True, False), ("0", "1", "2"), ((0, 1, 2),), ((0,), (1,), (2,)), "0 1 2", "012", (0, 1, [2]),
]

# None of these is a number of draws.
NOT_DRAWS = NEVER + [-1, -12, 13, 14, 100, BIG, -BIG, (0,), (1,), (12,), (0, 1), (12, 1)]

# A right key of a paper or a plan, and what passes for it in a dict.
KEYS_WITH_A_TRUTH = [
    ((0,), (False,)), ((1,), (True,)), ((0, 1), (False, True)), ((0, 1), (0, True)), ((0, 1), (False, 1)),
    ((0, 2), (False, 2)), ((1, 2), (True, 2)), ((0, 1, 2), (0, True, 2)), ((0, 1, 2), (False, 1, 2)),
]


def all_some(shares):
    """Each some kinds of these shares."""
    kinds = range(len(shares))
    return [some for many in range(len(shares) + 1) for some in itertools.combinations(kinds, many)]


def all_kinds(shares):
    return tuple(range(len(shares)))


def lefts(shares):
    """Each some kinds of these shares, one or more."""
    return [some for some in all_some(shares) if some]


def without_kind(left, kind):
    return tuple(other for other in left if other != kind)


def put(paper, key, number):
    """A paper or a plan told otherwise at one key."""
    return {**paper, key: number}


def without(paper, key):
    return {each: paper[each] for each in paper if each != key}


def renamed(paper, key, other):
    """A paper or a plan with another key in the place of one."""
    return {(other if each == key else each): paper[each] for each in paper}


def due(paper, shares, left):
    """The due number, by the words of [31]."""
    together = Fraction(sum(shares))
    for kind in left:
        top, bottom = paper[without_kind(left, kind)]
        together += shares[kind] * Fraction(top, bottom)
    return together / sum(shares[kind] for kind in left)


def pair(worth):
    """A Fraction of Python's own as this program writes it."""
    return (worth.numerator, worth.denominator)


def text_of(thing):
    """A text that tells True from 1 and a list from a tuple, as == does not always."""
    return repr(thing)


def refusal(function, *args):
    """The error that refuses these arguments, or None; what is handed in must stay as it is."""
    ahead = text_of(args)
    error = None
    try:
        function(*args)
    except GatherError as caught:
        error = caught
    if text_of(args) != ahead:
        raise AssertionError(f"{function.__name__} changed what was handed in: {ahead}")
    return error


def assert_refused(case, wanted, function, *args):
    """The arguments are refused with just this class, on their own and when asked again."""
    for again in range(2):
        error = refusal(function, *copy.deepcopy(args))
        case.assertIsNotNone(error, (function.__name__, args))
        case.assertIs(error.__class__, wanted, (function.__name__, args))
    return str(error)


def assert_told(case, wanted, function, *args):
    """The answer is this one, of the same kind within, when asked twice; nothing handed in is changed."""
    ahead = text_of(args)
    for again in range(2):
        answer = function(*args)
        case.assertEqual(text_of(answer), text_of(wanted), (function.__name__, args))
        case.assertEqual(text_of(args), ahead)
