"""[33] to [35]: series compared, covers, and needless runs."""

import operator
import unittest

from anymethod.compared import alike, cover, lacking, needless, trimmed
from anymethod.errors import OtherEffects
from anymethod.questions import effect, nothing
from anymethod.ratios import Ratio
from anymethod.runs import Run
from anymethod.series import Series
from anymethod.telling import Bound, least_error
from tests.helping import A, AB, B, MethodCase, made
from tests.second import EFFECTS, Maker, fraction, second_least_error, turned



EMPTY = made()
XY = made(x=Run(A, 1), y=Run(A + B, 2))
COMPARE = (lacking, alike, cover, operator.le, operator.lt, operator.ge, operator.gt)


def second_lacking(one, other):
    names = []
    for name in one.names():
        error = second_least_error(other, one[name].question, 0)
        if error is None or error > fraction(one[name].slip):
            names.append(name)
    return names


def pairs(seed, count):
    """Pairs of series with the same effects, of which some tell each other."""
    maker = Maker(seed, most=2)
    for at in range(count):
        effects = EFFECTS[:1 + at % 3]
        yield maker.series(effects, maker.chance.randint(0, 3)), maker.series(effects, maker.chance.randint(0, 6))


class OtherEffectsTest(MethodCase):
    def test_each_of_them(self):
        for effects in (("b", "a"), ("a",), ("a", "b", "c"), ("a", "c")):
            other = Series(effects)
            filled = other.copy()
            filled["x"] = Run(effect(effects, effects[0]), 1)
            for function in COMPARE:
                for one in (EMPTY, XY):
                    for two in (other, filled):
                        self.refused(OtherEffects, (), function, one, two)
                        self.refused(OtherEffects, (), function, two, one)


class LackingTest(MethodCase):
    def test_names(self):
        one = made(z=Run(B, 3), w=Run(B, Ratio(29, 10)), x=Run(A, 5), y=Run(A - B, Ratio(39, 10)))
        self.assertEqual(lacking(one, XY), ["w", "y"])
        self.assertEqual(lacking(XY, one), ["x", "y"])
        self.assertEqual(lacking(one, EMPTY), ["w", "x", "y", "z"])

    def test_no_run(self):
        self.assertEqual(lacking(EMPTY, EMPTY), [])
        self.assertEqual(lacking(EMPTY, XY), [])
        self.assertEqual(lacking(made(x=Run(nothing(AB), 0)), EMPTY), [])

    def test_exactly_the_slip(self):
        self.assertEqual(lacking(made(x=Run(B, 3)), XY), [])
        self.assertEqual(lacking(made(x=Run(B, 3 - Ratio(1, 10 ** 30))), XY), ["x"])
        self.assertEqual(lacking(made(x=Run(A, 0)), made(y=Run(5 * A, 0))), [])

    def test_the_names_need_not_agree(self):
        self.assertEqual(lacking(made(q=Run(A, 1)), made(x=Run(A, 1))), [])
        self.assertEqual(lacking(made(x=Run(A, 1)), made(x=Run(B, 1))), ["x"])

    def test_a_second_way(self):
        seen = set()
        for one, other in pairs(11, 60):
            names = lacking(one, other)
            self.assertIs(names.__class__, list)
            self.assertEqual(names, second_lacking(one, other))
            self.assertEqual(names, lacking(turned(one), turned(other)))
            seen.add(min(len(names), 2))
        self.assertEqual(seen, {0, 1, 2})

    def test_lists_are_new(self):
        lacking(XY, EMPTY).clear()
        self.assertEqual(lacking(XY, EMPTY), ["x", "y"])


class ComparisonTest(MethodCase):
    def told(self, one, other):
        told = [one <= other, one < other, one >= other, one > other, alike(one, other)]
        for flag in told:
            self.assertIs(flag.__class__, bool)
        return told

    def test_equal_series(self):
        for series in (EMPTY, XY):
            self.assertEqual(self.told(series, series), [True, False, True, False, True])
            self.assertEqual(self.told(series, series.copy()), [True, False, True, False, True])

    def test_alike_but_not_equal(self):
        one, other = made(x=Run(A, 1)), made(p=Run(2 * A, 2), q=Run(-A, 3))
        self.assertEqual(self.told(one, other), [True, False, True, False, True])
        self.assertIs(one == other, False)

    def test_one_is_better(self):
        for one, other in ((EMPTY, XY), (made(x=Run(B, 3)), XY), (XY, made(x=Run(A, 1), y=Run(A + B, 1)))):
            self.assertEqual(self.told(one, other), [True, True, False, False, False])
            self.assertEqual(self.told(other, one), [False, False, True, True, False])

    def test_neither(self):
        for other in (made(x=Run(B, 1)), made(x=Run(B, Ratio(299, 100)))):
            self.assertEqual(self.told(XY, other), [False] * 5)
            self.assertEqual(self.told(other, XY), [False] * 5)

    def test_a_second_way(self):
        for one, other in pairs(12, 45):
            below, above = second_lacking(one, other) == [], second_lacking(other, one) == []
            expected = [below, below and not above, above, above and not below, below and above]
            self.assertEqual(self.told(one, other), expected)

    def test_another_operand_is_no_series(self):
        for function in (operator.le, operator.lt, operator.ge, operator.gt):
            with self.assertRaises(TypeError):
                function(XY, 1)

    def test_fact(self):
        """A series is at most another one if and only if no question is told worse by the other one."""
        maker = Maker(13)
        for one, other in pairs(14, 30):
            questions = [maker.question(one.effects) for _ in range(4)] + [one[name].question for name in one.names()]
            worse = []
            for question in questions:
                mine, its = least_error(one, question), least_error(other, question)
                worse.append(mine is not None and (its is None or its > mine))
            if one <= other:
                self.assertNotIn(True, worse)
            else:
                self.assertIn(True, worse)


class CoverTest(MethodCase):
    def holds(self, one, other):
        found = cover(one, other)
        self.assertIs(found.__class__, dict)
        self.assertEqual(sorted(found), one.names())
        for name, bound in found.items():
            self.assertIs(bound.__class__, Bound)
            self.assertIs(bound.error.__class__, Ratio)
            self.assertLessEqual(bound.error, one[name].slip)
            self.assertEqual(len(bound.weights), 1)
            question, price = nothing(one.effects), Ratio(0)
            for key, value in bound.weights[0].items():
                self.assertIs(value.__class__, Ratio)
                self.assertNotEqual(value, 0)
                question += value * other[key].question
                price += abs(value) * other[key].slip
            self.assertEqual(question, one[name].question)
            self.assertLessEqual(price, bound.error)

    def test_ordinary(self):
        self.holds(made(p=Run(B, 3), q=Run(A - B, 4), r=Run(A + B, 7), s=Run(nothing(AB), 0)), XY)
        self.holds(XY, XY)

    def test_no_run(self):
        self.assertEqual(cover(EMPTY, EMPTY), {})
        self.assertEqual(cover(EMPTY, XY), {})
        self.holds(made(x=Run(nothing(AB), 0)), EMPTY)

    def test_a_run_is_lacking(self):
        self.assertIsNone(cover(XY, EMPTY))
        self.assertIsNone(cover(made(p=Run(B, 3), q=Run(A - B, 3)), XY))

    def test_a_second_way(self):
        seen = set()
        for one, other in pairs(15, 60):
            seen.add(lacking(one, other) == [])
            if lacking(one, other) == []:
                self.holds(one, other)
            else:
                self.assertIsNone(cover(one, other))
            self.assertEqual(cover(one, other), cover(turned(one), turned(other)))
        self.assertEqual(seen, {True, False})

    def test_dicts_are_new(self):
        cover(XY, XY).clear()
        cover(XY, XY)["x"].weights[0].clear()
        self.holds(XY, XY)


class NeedlessTest(MethodCase):
    def test_no_run(self):
        self.assertEqual(needless(EMPTY), [])
        self.assertEqual(trimmed(EMPTY), EMPTY)
        self.assertIsNot(trimmed(EMPTY), EMPTY)

    def test_each_is_looked_at_alone(self):
        series = made(x=Run(A, 1), y=Run(A, 1), z=Run(B, 1))
        self.assertEqual(needless(series), ["x", "y"])
        self.assertEqual(needless(XY), [])
        self.assertEqual(needless(made(x=Run(A, 1), y=Run(B, 1), z=Run(A + B, 2))), ["z"])
        self.assertEqual(needless(made(x=Run(A, 1), y=Run(B, 1), z=Run(A + B, Ratio(199, 100)))), [])
        self.assertEqual(needless(made(x=Run(nothing(AB), 0))), ["x"])

    def test_from_the_last_to_the_first(self):
        self.assertEqual(trimmed(made(x=Run(A, 1), y=Run(A, 1), z=Run(-A, 1))), made(x=Run(A, 1)))
        self.assertEqual(trimmed(made(z=Run(A, 1), y=Run(2 * A, 2), x=Run(A, 1))).names(), ["x"])
        self.assertEqual(trimmed(made(x=Run(A, 2), y=Run(A, 1), z=Run(2 * A, 2))).names(), ["y"])
        series = made(x=Run(A, 1), y=Run(B, 1), z=Run(A + B, 0), w=Run(A, 0))
        self.assertEqual(trimmed(series).names(), ["w", "z"])

    def test_looked_at_in_what_is_left(self):
        # Each of the three is told by the other two, but only one of them can go.
        series = made(x=Run(A, 0), y=Run(B, 0), z=Run(A + B, 0))
        self.assertEqual(needless(series), ["x", "y", "z"])
        self.assertEqual(trimmed(series).names(), ["x", "y"])

    def test_the_series_stays(self):
        series = made(x=Run(A, 1), y=Run(A, 1))
        result = trimmed(series)
        needless(series).clear()
        self.assertEqual(series, made(x=Run(A, 1), y=Run(A, 1)))
        result["z"] = Run(B, 1)
        self.assertEqual(len(series), 2)
        self.assertIsNot(trimmed(XY), XY)
        self.assertEqual(trimmed(XY), XY)

    def second_needless(self, series):
        names = []
        for name in series.names():
            rest = Series(series.effects)
            for other in series.names():
                if other != name:
                    rest[other] = series[other]
            error = second_least_error(rest, series[name].question, 0)
            if error is not None and error <= fraction(series[name].slip):
                names.append(name)
        return names

    def test_a_second_way(self):
        seen = set()
        for _, series in pairs(16, 40):
            names = needless(series)
            self.assertIs(names.__class__, list)
            self.assertEqual(names, self.second_needless(series))
            self.assertEqual(names, needless(turned(series)))
            expected = series.copy()
            for name in sorted(series.names(), reverse=True):
                if name in self.second_needless(expected):
                    expected.drop(name)
            result = trimmed(series)
            self.assertEqual(result, expected)
            self.assertEqual(result, trimmed(turned(series)))
            self.assertEqual(needless(result), [])
            self.assertIs(alike(result, series), True)
            seen.add(min(len(names), 2))
        self.assertEqual(seen, {0, 1, 2})


if __name__ == "__main__":
    unittest.main()
