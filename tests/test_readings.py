"""[28] to [30]: what readings leave possible."""

import time
import unittest

from anymethod.errors import Clash, NoReadings, NoWild, NoWorld, OtherEffects, Unbounded
from anymethod.questions import Question, effect, nothing
from anymethod.ratios import Ratio
from anymethod.readings import Estimator, estimate, fits, stretches, world_of
from anymethod.runs import Run
from anymethod.telling import least_error
from tests.helping import A, AB, B, NO_NUMBERS, NO_SEQUENCES, NO_WILDS, MethodCase, made
from tests.second import EFFECTS, Maker, fraction, second_stretches, turned, union, weights_of

OTHER = effect(("b", "a"), "a")


EMPTY = made()
XYZ = made(x=Run(A, 1), y=Run(A, 1), z=Run(B, 2))
READ = {"x": 5, "y": 6, "z": 0}


def line(**runs):
    """A series over one effect, of triples (weight, slip, reading), and its readings."""
    series = made(("a",), **{name: Run(Question(("a",), (weight,)), slip) for name, (weight, slip, _) in runs.items()})
    return series, {name: reading for name, (_, _, reading) in runs.items()}


ONE = effect(("a",), "a")


class ReadingCase(MethodCase):
    def number(self, value):
        self.assertIs(value.__class__, Ratio)
        return fraction(value)

    def stretch(self, series, question, readings, wild=0):
        """The stretches, as integers or Fractions; everything about their form is looked at."""
        pairs = stretches(series, question, readings, wild=wild)
        self.assertIs(pairs.__class__, list)
        for pair in pairs:
            self.assertIs(pair.__class__, tuple)
            self.assertEqual(len(pair), 2)
        if pairs == [(None, None)]:
            return pairs
        ends = [self.number(end) for pair in pairs for end in pair]
        self.assertEqual(ends, sorted(ends))
        for (_, high), (low, _) in zip(pairs, pairs[1:]):
            self.assertLess(high, low)
        return [(fraction(low), fraction(high)) for low, high in pairs]


class ErrorTest(ReadingCase):
    """The errors of [28], one behind the other."""

    def actions(self, series, readings, wild):
        return {
            "fits": lambda: fits(series, (0, 0), readings, wild=wild),
            "world_of": lambda: world_of(series, readings, wild=wild),
            "stretches": lambda: stretches(series, A, readings, wild=wild),
            "estimate": lambda: estimate(series, A, readings, wild=wild),
        }

    def test_other_effects_come_first(self):
        for question in (OTHER, effect(("a",), "a"), nothing(("a", "b", "c"))):
            for series in (EMPTY, XYZ):
                for wild in (0, 3, True, None):
                    for readings in ({}, READ):
                        self.refused(OtherEffects, (), lambda: stretches(series, question, readings, wild=wild))
                        self.refused(OtherEffects, (), lambda: estimate(series, question, readings, wild=wild))
                    self.refused(OtherEffects, (), lambda: Estimator(series, question, wild=wild))

    def test_no_world_comes_first(self):
        for world in (*NO_SEQUENCES, (), (1,), [1, 2, 3], (1, True), (None, 1), [1, "2"]):
            for series in (EMPTY, XYZ):
                self.refused(NoWorld, (), lambda: fits(series, world, {}, wild=7))
                self.refused(NoWorld, (), lambda: fits(series, world, READ))

    def test_no_wild(self):
        for wild in NO_WILDS:
            for series in (EMPTY, XYZ):
                for readings in ({}, READ):
                    for action in self.actions(series, readings, wild).values():
                        self.refused(NoWild, (), action)
                self.refused(NoWild, (), lambda: Estimator(series, A, wild=wild))

    def test_no_readings(self):
        for readings, name in (({}, "x"), ({"y": 1, "z": 1}, "x"), ({"x": 1, "z": 1}, "y"), ({"x": 1}, "y"),
                               ({"x": 1, "y": 1, "q": 1}, "z"), ({"x": 1, "y": True, "z": "3"}, "y")):
            for wild in (0, 1, 2):
                for action in self.actions(XYZ, readings, wild).values():
                    self.refused(NoReadings, (name,), action)

    def test_what_is_no_number(self):
        for value in NO_NUMBERS:
            for action in self.actions(XYZ, {**READ, "y": value}, 1).values():
                self.refused(NoReadings, ("y",), action)

    def test_no_readings_ahead_of_the_rest(self):
        clash = made(x=Run(A, 0), y=Run(A, 0), z=Run(B, 0))
        for series in (clash, made(x=Run(nothing(AB), 0), y=Run(B, 0))):
            self.refused(NoReadings, ("y",), lambda: estimate(series, A, {"x": 1, "z": 3}))

    def test_keys_that_are_no_names_of_the_series(self):
        more = {**READ, "w": None, "": 1, None: 2, 5: "a", ("x",): [], True: True, "X": 9}
        self.assertEqual(self.stretch(XYZ, A, more), [(5, 6)])
        self.assertIs(fits(XYZ, (5, 0), more), True)
        self.assertEqual(estimate(XYZ, A, more), Ratio(11, 2))
        self.assertEqual(world_of(EMPTY, {"x": None}), world_of(EMPTY, {}))
        self.assertEqual(more, {**READ, "w": None, "": 1, None: 2, 5: "a", ("x",): [], True: True, "X": 9})


class FitsTest(ReadingCase):
    def test_without_wild_runs(self):
        for world, told in (((5, 0), True), ([6, 2], True), ((5, -2), True), ((Ratio(11, 2), 1), True), ((4, 0), False),
                            ((7, 0), False), ((5, Ratio(201, 100)), False), ((Ratio(499, 100), 0), False)):
            self.assertIs(fits(XYZ, world, READ), told)

    def test_wild_runs(self):
        for world, least in (((5, 0), 0), ((4, 0), 1), ((7, 0), 1), ((5, 3), 1), ((0, 0), 2), ((4, 3), 2), ((0, 9), 3)):
            for wild in (0, 1, 2):
                self.assertIs(fits(XYZ, world, READ, wild=wild), wild >= least)

    def test_at_most_so_many_runs(self):
        series, readings = line(x=(1, 0, 5), y=(1, 0, 7))
        self.assertIs(fits(series, (100,), readings, wild=2), True)
        self.assertIs(fits(series, (100,), readings, wild=1), False)
        for wild in (0, 1, 2):
            self.assertIs(fits(EMPTY, (3, 4), {}, wild=wild), True)

    def test_the_least_and_the_greatest_reading(self):
        run = Run(Question(AB, (Ratio(2, 3), -1)), Ratio(1, 7))
        series = made(x=run)
        answer = run.question.at((1, 4))
        for sign in (1, -1):
            self.assertIs(fits(series, (1, 4), {"x": answer + sign * run.slip}), True)
            beyond = answer + sign * (run.slip + Ratio(1, 10 ** 50))
            self.assertIs(fits(series, (1, 4), {"x": beyond}), False)
            self.assertIs(fits(series, (1, 4), {"x": beyond}, wild=1), True)


class WorldOfTest(ReadingCase):
    def holds(self, series, readings, wild):
        """Whether there is a world, which then fits."""
        world = world_of(series, readings, wild=wild)
        if world is None:
            return False
        self.assertIs(world.__class__, tuple)
        for value in world:
            self.number(value)
        self.assertIs(fits(series, world, readings, wild=wild), True)
        return True

    def test_ordinary(self):
        self.assertTrue(self.holds(XYZ, READ, 0))
        self.assertFalse(self.holds(XYZ, {"x": 5, "y": 8, "z": 0}, 0))
        self.assertTrue(self.holds(XYZ, {"x": 5, "y": 7, "z": 0}, 0))
        self.assertTrue(self.holds(XYZ, {"x": 5, "y": 8, "z": 0}, 1))

    def test_no_run(self):
        for wild in (0, 1, 2):
            self.assertTrue(self.holds(EMPTY, {}, wild))

    def test_at_most_so_many_runs(self):
        series = made(x=Run(nothing(AB), 0), y=Run(nothing(AB), 1))
        for wild, told in ((0, False), (1, False), (2, True)):
            self.assertIs(self.holds(series, {"x": 1, "y": 2}, wild), told)
        self.assertTrue(self.holds(series, {"x": 1, "y": -1}, 1))
        self.assertTrue(self.holds(series, {"x": 0, "y": -1}, 0))

    def test_slips_of_zero(self):
        series = made(x=Run(A, 0), y=Run(A + B, 0), z=Run(A - 2 * B, 0))
        self.assertEqual(world_of(series, {"x": 3, "y": 5, "z": -1}), (3, 2))
        self.assertIsNone(world_of(series, {"x": 3, "y": 5, "z": Ratio(-101, 100)}))

    def test_one_wild_run_too_many(self):
        for wild in (0, 1, 2):
            series, readings = line(p=(1, 1, 0), q=(2, 1, 0), r=(3, 1, 0), s=(1, 1, 9), t=(1, 1, 19), u=(1, 1, -9))
            for name in ("u", "t", "s")[wild + 1:]:
                series.drop(name)
            self.assertFalse(self.holds(series, readings, wild))
            series.drop(("u", "t", "s")[wild])
            self.assertTrue(self.holds(series, readings, wild))

    def test_a_second_way(self):
        maker = Maker(31)
        seen = {True: 0, False: 0}
        for series, question in maker.cases(60, most_runs=6):
            readings = maker.readings(series, wild=maker.chance.randint(0, 3), spread=2)
            for wild in (0, 1, 2):
                there = self.holds(series, readings, wild)
                self.assertIs(there, second_stretches(series, nothing(series.effects), readings, wild) != [])
                seen[there] += 1
                self.assertEqual(world_of(series, readings, wild=wild), world_of(turned(series), readings, wild=wild))
        self.assertGreater(min(seen.values()), 20)


class StretchesTest(ReadingCase):
    def test_example(self):
        self.assertEqual(self.stretch(XYZ, A, READ), [(5, 6)])
        self.assertEqual(self.stretch(XYZ, A + B, READ), [(3, 8)])
        self.assertEqual(self.stretch(XYZ, A, READ, 1), [(4, 7)])
        self.assertEqual(self.stretch(XYZ, B, READ, 1), [(None, None)])

    def test_empty(self):
        series, readings = line(x=(1, 1, 0), y=(1, 1, 3), z=(1, 1, 6))
        self.assertEqual(self.stretch(series, ONE, readings), [])
        self.assertEqual(self.stretch(series, ONE, readings, 1), [])
        self.assertEqual(self.stretch(made(x=Run(nothing(AB), 0)), A, {"x": 1}), [])
        self.assertEqual(self.stretch(made(x=Run(A, 0), y=Run(A, 0)), B, {"x": 1, "y": 2}), [])

    def test_one_point(self):
        series, readings = line(x=(1, 1, 0), y=(1, 1, 2))
        self.assertEqual(self.stretch(series, ONE, readings), [(1, 1)])
        self.assertEqual(self.stretch(made(x=Run(A, 0)), 2 * A, {"x": 7}), [(14, 14)])
        self.assertEqual(self.stretch(EMPTY, nothing(AB), {}), [(0, 0)])
        self.assertEqual(self.stretch(XYZ, nothing(AB), READ, 2), [(0, 0)])

    def test_several(self):
        series, readings = line(x=(1, 1, 0), y=(1, 1, 10), z=(1, 1, 20))
        self.assertEqual(self.stretch(series, ONE, readings, 2), [(-1, 1), (9, 11), (19, 21)])
        self.assertEqual(self.stretch(series, -2 * ONE, readings, 2), [(-42, -38), (-22, -18), (-2, 2)])
        self.assertEqual(self.stretch(series, nothing(("a",)), readings, 2), [(0, 0)])

    def test_touching_ones_become_one(self):
        series, readings = line(x=(1, 1, 0), y=(1, 1, 2), z=(1, 1, 4), w=(1, 0, 9))
        for name in ("w", "x", "y", "z"):
            left = series.copy()
            left.drop(name)
            expected = union([(readings[other] - left[other].slip.top, readings[other] + left[other].slip.top)
                              for other in left.names()])
            self.assertEqual(self.stretch(left, ONE, readings, 2), expected)
        left = series.copy()
        left.drop("w")
        self.assertEqual(self.stretch(left, ONE, readings, 2), [(-1, 5)])

    def test_almost_touching_ones_do_not(self):
        small = Ratio(1, 10 ** 40)
        series, readings = line(x=(1, 1, 0), y=(1, 1, 2 + small))
        self.assertEqual(stretches(series, ONE, readings, wild=1), [(-1, 1), (1 + small, 3 + small)])

    def test_overlapping_ones_become_one(self):
        series, readings = line(x=(1, 5, 0), y=(1, 1, 6), z=(1, 9, 20))
        self.assertEqual(self.stretch(series, ONE, readings, 2), [(-5, 7), (11, 29)])
        series, readings = line(x=(1, 1, 6), y=(1, 5, 0), z=(1, 20, 0))
        self.assertEqual(self.stretch(series, ONE, readings, 2), [(-20, 20)])
        series, readings = line(x=(1, 1, -10), y=(1, 1, 10), z=(1, 9, 0))
        self.assertEqual(self.stretch(series, ONE, readings, 2), [(-11, 11)])

    def test_every_value(self):
        for wild in (0, 1, 2):
            self.assertEqual(self.stretch(EMPTY, A, {}, wild), [(None, None)])
        self.assertEqual(self.stretch(XYZ, A, READ, 2), [(None, None)])
        self.assertEqual(self.stretch(made(z=Run(B, 1)), A + B, {"z": 0}), [(None, None)])
        self.assertEqual(self.stretch(made(x=Run(nothing(AB), 1)), A, {"x": 1}), [(None, None)])

    def test_every_value_needs_a_world_that_fits(self):
        # Without "z" the other two contradict each other: so "z" is not the wild one.
        series = made(x=Run(A, 1), y=Run(A, 1), z=Run(B, 1))
        readings = {"x": 0, "y": 9, "z": 3}
        self.assertEqual(self.stretch(series, B, readings, 1), [(2, 4)])
        self.assertEqual(self.stretch(series, A, readings, 1), [(-1, 1), (8, 10)])

    def test_at_most_so_many_runs(self):
        series, readings = line(x=(1, 1, 0), y=(1, 1, 9))
        self.assertEqual(self.stretch(series, ONE, readings, 2), [(None, None)])
        self.assertEqual(self.stretch(series, ONE, readings, 1), [(-1, 1), (8, 10)])
        self.assertEqual(self.stretch(series, ONE, readings, 0), [])

    def test_great_numbers(self):
        great = Ratio(10 ** 999 + 7, 10 ** 998 + 9)
        series = made(x=Run(great * A, great), y=Run(A - great * B, Ratio(1, 10 ** 999)))
        self.assertEqual(self.stretch(series, A, {"x": 0, "y": great}), [(-1, 1)])

    def one_effect(self, series, question, readings, wild):
        """For one effect each run leaves an interval of its own."""
        weight = weights_of(question)[0]
        pairs = []
        for lost in [()] + [(name,) for name in series.names()] + [(x, y) for x in series.names() for y in series.names()]:
            if len(set(lost)) > wild:
                continue
            low, high, there = None, None, True
            for name in series.names():
                if name in lost:
                    continue
                factor, slip = weights_of(series[name].question)[0], fraction(series[name].slip)
                reading = fraction(readings[name])
                if factor == 0:
                    there = there and abs(reading) <= slip
                    continue
                ends = sorted(((reading - slip) / factor, (reading + slip) / factor))
                low = ends[0] if low is None else max(low, ends[0])
                high = ends[1] if high is None else min(high, ends[1])
            if not there or (low is not None and low > high):
                continue
            if weight == 0:
                pairs.append((0, 0))
            elif low is None:
                pairs.append((None, None))
            else:
                pairs.append(tuple(sorted((weight * low, weight * high))))
        return union(pairs)

    def test_one_effect(self):
        maker = Maker(32)
        counts = {}
        for count in range(150):
            series, question = maker.series(("a",), count % 9), maker.question(("a",))
            readings = maker.readings(series, wild=count % 5, spread=1 + count % 2)
            for wild in (0, 1, 2):
                pairs = self.stretch(series, question, readings, wild)
                self.assertEqual(pairs, self.one_effect(series, question, readings, wild))
                counts[min(len(pairs), 2)] = counts.get(min(len(pairs), 2), 0) + 1
        self.assertGreater(min(counts[0], counts[1], counts[2]), 15)

    def test_a_second_way(self):
        maker = Maker(33)
        counts = {}
        for series, question in maker.cases(60, most_runs=7):
            readings = maker.readings(series, wild=maker.chance.randint(0, 2), spread=1 + maker.chance.randint(0, 1))
            for wild in (0, 1, 2):
                pairs = self.stretch(series, question, readings, wild)
                self.assertEqual(pairs, second_stretches(series, question, readings, wild))
                self.assertEqual(stretches(turned(series), question, readings, wild=wild),
                                 stretches(series, question, readings, wild=wild))
                kind = "all" if pairs == [(None, None)] else min(len(pairs), 2)
                counts[kind] = counts.get(kind, 0) + 1
        self.assertGreater(min(counts["all"], counts[0], counts[1]), 9)

    def test_lists_are_new(self):
        stretches(XYZ, A, READ).clear()
        stretches(EMPTY, A, {}).clear()
        self.assertEqual(self.stretch(XYZ, A, READ), [(5, 6)])
        self.assertEqual(self.stretch(EMPTY, A, {}), [(None, None)])


class EstimateTest(ReadingCase):
    def test_the_middle(self):
        self.same_ratio(estimate(XYZ, A, READ), 11, 2)
        self.same_ratio(estimate(XYZ, A + B, READ), 11, 2)
        self.same_ratio(estimate(XYZ, A, READ, wild=1), 11, 2)
        self.same_ratio(estimate(EMPTY, nothing(AB), {}), 0)

    def test_between_the_outermost_stretches(self):
        series, readings = line(x=(1, 1, 0), y=(1, 1, 10), z=(1, 2, 20))
        self.same_ratio(estimate(series, ONE, readings, wild=2), 21, 2)

    def test_clash(self):
        series, readings = line(x=(1, 1, 0), y=(1, 1, 3))
        for question in (ONE, nothing(("a",))):
            self.refused(Clash, (), lambda: estimate(series, question, readings))
            self.refused(Clash, (), lambda: Estimator(series, question)(readings))
        self.refused(Clash, (), lambda: estimate(made(x=Run(nothing(AB), 0)), A, {"x": 1}))

    def test_unbounded(self):
        for wild in (0, 1, 2):
            self.refused(Unbounded, (), lambda: estimate(EMPTY, A, {}, wild=wild))
            self.refused(Unbounded, (), lambda: Estimator(EMPTY, A, wild=wild)({}))
        self.refused(Unbounded, (), lambda: estimate(XYZ, B, READ, wild=1))

    def test_facts(self):
        maker = Maker(34)
        seen = 0
        for series, question in maker.cases(60, most_runs=7):
            for wild in (0, 1, 2):
                readings = maker.readings(series, wild=wild)
                pairs = self.stretch(series, question, readings, wild)
                self.assertNotEqual(pairs, [])
                if pairs == [(None, None)]:
                    self.refused(Unbounded, (), lambda: estimate(series, question, readings, wild=wild))
                    continue
                middle = self.number(estimate(series, question, readings, wild=wild))
                self.assertEqual(middle - pairs[0][0], pairs[-1][1] - middle)
                error = least_error(series, question, wild=wild)
                if error is not None:
                    seen += 1
                    self.assertLessEqual(pairs[-1][1] - middle, fraction(error))
        self.assertGreater(seen, 40)


class EstimatorTest(ReadingCase):
    def test_fields(self):
        estimator = Estimator(XYZ, A, wild=1)
        self.assertIs(estimator.question, A)
        self.assertEqual((estimator.wild, Estimator(XYZ, A).wild), (1, 0))
        self.assertIs(estimator.wild.__class__, int)

    def test_called(self):
        for question in (A, A + B):
            self.assertEqual(Estimator(XYZ, question)(READ), estimate(XYZ, question, READ))
        self.same_ratio(Estimator(XYZ, A, wild=1)({**READ, "y": 8}), 13, 2)

    def test_later_changes_of_the_series(self):
        series = XYZ.copy()
        estimator = Estimator(series, A)
        series.drop("x")
        series["w"] = Run(B, 0)
        series["y"] = Run(A, 100)
        self.same_ratio(estimator(READ), 11, 2)
        with self.assertRaises(NoReadings):
            estimator({"y": 6, "z": 0, "w": 0})

    def test_errors_when_called(self):
        estimator = Estimator(XYZ, A)
        self.refused(NoReadings, ("x",), estimator, {})
        self.refused(NoReadings, ("z",), estimator, {"x": 5, "y": 6, "z": None})
        self.refused(Clash, (), estimator, {"x": 0, "y": 9, "z": 0})
        self.refused(Unbounded, (), Estimator(XYZ, A, wild=2), READ)


class ChangedTest(ReadingCase):
    def test_behind_each_change(self):
        series = made(x=Run(A, 1))
        self.assertEqual(self.stretch(series, A, READ), [(4, 6)])
        series["y"] = Run(A, 1)
        self.assertEqual(self.stretch(series, A, READ), [(5, 6)])
        with self.assertRaises(KeyError):
            with series.trying():
                series["x"] = Run(A, 0)
                self.assertEqual(self.stretch(series, A, READ), [(5, 5)])
                raise KeyError
        self.assertEqual(self.stretch(series, A, READ), [(5, 6)])
        series.drop("x")
        self.assertEqual(self.stretch(series, A, READ), [(5, 7)])
        series |= XYZ
        self.assertEqual(self.stretch(series, A + B, READ), [(3, 8)])

    def test_arguments_stay(self):
        series, readings = XYZ.copy(), dict(READ)
        for wild in (0, 1, 2):
            stretches(series, A, readings, wild=wild)
            world_of(series, readings, wild=wild)
        self.assertEqual((series, readings), (XYZ, READ))


class SpeedTest(ReadingCase):
    def test_eight_runs_over_four_effects(self):
        maker = Maker(35, most=99)
        series, question = maker.series(EFFECTS, 8), maker.question(EFFECTS)
        readings = maker.readings(series, wild=2)
        for action in (lambda: stretches(series, question, readings, wild=2), lambda: world_of(series, readings, wild=2),
                       lambda: estimate(series, question, readings, wild=2)):
            start = time.perf_counter()
            self.assertIsNotNone(action())
            self.assertLess(time.perf_counter() - start, 1)


if __name__ == "__main__":
    unittest.main()
