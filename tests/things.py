"""Things of whatever kind, and how the tests ask about them."""

import copy

from kindsgathered.errors import (
    GatherError, NoKind, NoLine, NoNeeds, NoNumber, NoPlan, NoShares, NoText, TooMany)

CLASSES = (NoShares, NoKind, NoNumber, NoNeeds, NoPlan, TooMany, NoLine, NoText)

BIG = 10 ** 59 + 7

# None of these is a number, a fraction, shares, or some kinds.
NEVER = [
    None, True, False, "", "1", "0", "3 1 1", "1/2", "(1, 2)", "abc", " " * 60, "~" * 60,
    [], [1], [0], [1, 2], [3, 1, 1], [(1, 2)], [[1], [2]], [None], ["a"],
    {}, {0: 1}, {1: 2}, {(): (0, 1)}, {"top": 1, "bottom": 2}, {1: 2, 3: 4}, {(1, 2): [1, 2]},
    (True,), (False,), (True, 2), (1, True), (False, 1), (True, True), (False, True), (0, True),
    (None,), (None, None), (1, None), (None, 1), ("1",), ("1", "2"), (1, "2"), ("1", 2), ("a", 1), (1, "a"),
    ((1,),), ((1, 2),), ((1, 2), (1, 2)), (1, (2,)), ((1,), 2), ((), ()), ((),), ([],), ([1], [2]), ([1], 2), (1, [2]),
    ({},), ({}, {}), (1, {}), ({1: 2}, 1), ((((((1, 2),),),),),), [[[[[[1]]]]]], {1: {1: {1: {1: {1: {}}}}}},
    (3, 1, True), (True, 1, 3), (3, 1, None), (3, "1", 1), (3, (1, 1)), (3, [1], 1), (0, 1, True), (0, 1, None),
    (0, 1, "2"), (0, (1,), 2), (BIG, "a"), (None, BIG), (-1, -2, -3, -4, -5, -6), (1, 2, 3, 4, 5, "6"),
]


def text_of(thing):
    """A text that tells True from 1 and a list from a tuple, as == does not always."""
    return repr(thing)


def refusal(function, *args):
    """The error that refuses these arguments, or None; what is handed in must stay as it is."""
    ahead = text_of(args)
    error = None
    try:
        function(*args)
    except GatherError as caught:
        error = caught
    if text_of(args) != ahead:
        raise AssertionError(f"{function.__name__} changed what was handed in: {ahead}")
    return error


def assert_refused(case, wanted, function, *args):
    """The arguments are refused with just this class, on their own and when asked again."""
    for again in range(2):
        error = refusal(function, *copy.deepcopy(args))
        case.assertIsNotNone(error, (function.__name__, args))
        case.assertIs(error.__class__, wanted, (function.__name__, args))
    return str(error)


def assert_told(case, wanted, function, *args):
    """The answer is this one, of the same kind within, when asked twice; nothing handed in is changed."""
    ahead = text_of(args)
    for again in range(2):
        answer = function(*args)
        case.assertEqual(text_of(answer), text_of(wanted), (function.__name__, args))
        case.assertEqual(text_of(args), ahead)
