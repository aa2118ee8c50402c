"""What the tests have in common."""

import unittest

from anymethod.budgets import Budget, Noise, NoiseBound, NoiseOpen
from anymethod.desk import Desk
from anymethod.errors import NoRatio
from anymethod.methods import Combined
from anymethod.offers import Goal, Offer
from anymethod.questions import Question, effect
from anymethod.ratios import Ratio
from anymethod.readings import Estimator
from anymethod.runs import Run
from anymethod.series import Series
from anymethod.telling import Bound, Open

AB = ("a", "b")
A = effect(AB, "a")
B = effect(AB, "b")


def made(effects=AB, **runs):
    """A series with these runs."""
    series = Series(effects)
    for name, run in runs.items():
        series[name] = run
    return series


# Things of other kinds than numbers, sequences and strings.
STRANGE = (None, True, False, b"a", {}, {"a": 1}, range(1), NoRatio("top"), len, Ratio)
NO_NUMBERS = STRANGE + ("", "1", "a", [], (), [1], (1, 2), Question(("a",), (1,)), Run(Question(("a",), (1,)), 1))
NO_INTEGERS = NO_NUMBERS + (Ratio(1), Ratio(1, 2))
NO_SEQUENCES = STRANGE + (0, 1, Ratio(1), "", "a", "ab", Question(("a",), (1,)), Run(Question(("a",), (1,)), 1))
# Sequences that are no effects, each with one fault.
NO_EFFECTS = NO_SEQUENCES + (
    (), [], ("a", "a"), ["a", "b", "a"], ("a", "b", "c", "d", "e"), ["a", "b", "c", "d", "a"],
    ("",), ("A",), ("aB",), ("1",), ("1a",), ("_a",), ("a_",), ("a b",), (" a",), ("a\n",), ("a-",), ("\u00e4",),
    ("a\u0661",), ("abcdefghi",), ("a" * 1000,), (1,), ("a", None), ("a", True), (b"a",), (("a",),), ["a", ["b"]],
    (Ratio(1),),
)
# Things that are no names, strings among them.
NO_NAMES = NO_SEQUENCES + ((), [], ("a",), ["a"], [["a"]], ({},), "A", "aB", "1", "1a", "_a", "a_", "a b", " a", "a ",
                           "a\n", "a-", "\u00e4", "a\u0661", "abcdefghi", "a" * 1000)
NO_NAMES = tuple(thing for thing in NO_NAMES if thing not in ("a", "ab"))
NO_RUNS = NO_NUMBERS + (1, Ratio(1), Series(("a",)), Bound(1, ()), Open(1, ()))
NO_RUNS = tuple(thing for thing in NO_RUNS if not isinstance(thing, Run))
NO_WILDS = (3, -1, 4, 10 ** 30, True, False, None, "1", "", b"1", [], (), [1], (1,), {}, {0: 0}, Ratio(0), Ratio(1),
            Ratio(1, 2), NoRatio("top"), range(2), len)
# Things of every kind, for what may be anything.
CANDIDATES = NO_NUMBERS + (
    0, 1, -5, 10 ** 40, Ratio(1, 2), "x", "abc", b"", bytes(3), [[]], [{}], ({},), ((),), {"x": {}}, {"x": Ratio(1)},
    (None,), (1, (2, (3, [4]))), Series(("a",)), Series(("a", "b")), Bound(0, ()), Bound(0, [{}]), Bound(None, None),
    Open(0, ()), Open(None, None), Combined({}), Combined({"x": 1}), Estimator(Series(("a",)), Question(("a",), (0,))),
    Budget(("x",), 1), Noise(Series(("a",))), NoiseBound(0, {}, ()), NoiseOpen(0, (0,), 0), Desk(("a",)),
    Goal(Question(("a",), (1,)), 1), Offer(("a",), [("x", Run(Question(("a",), (1,)), 1), 1)]),
    NoRatio, ValueError("x"), print, range(0), object(), iter(()), Exception, int, str.lower,
)


def hashable(things):
    """Those of the things that can be keys of a dict."""
    found = []
    for thing in things:
        try:
            hash(thing)
        except TypeError:
            continue
        found.append(thing)
    return found


class MethodCase(unittest.TestCase):
    """A test case that knows ratios and refusals."""

    def same_ratio(self, value, top, bottom=1):
        self.assertIs(value.__class__, Ratio)
        self.assertIs(value.top.__class__, int)
        self.assertIs(value.bottom.__class__, int)
        self.assertEqual((value.top, value.bottom), (top, bottom))

    def same_ratios(self, values, expected):
        """The values are a tuple of Ratios; what is expected are integers or pairs."""
        self.assertIs(values.__class__, tuple)
        self.assertEqual(len(values), len(expected))
        for value, parts in zip(values, expected):
            self.same_ratio(value, *(parts if isinstance(parts, tuple) else (parts,)))

    def refused(self, error, fields, action, *given):
        """The action raises just this error, with these values of its fields."""
        with self.assertRaises(error) as caught:
            action(*given)
        self.assertIs(caught.exception.__class__, error)
        self.assertEqual(tuple(vars(caught.exception).values()), fields)
