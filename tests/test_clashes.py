"""[31] and [32]: readings that contradict each other, and runs that are surely wrong."""

import time
import unittest

from anymethod.clashes import check_clash, clash_of, surely_wild
from anymethod.errors import Clash, NoReadings, NoWild
from anymethod.questions import nothing
from anymethod.ratios import Ratio
from anymethod.readings import world_of
from anymethod.runs import Run
from tests.helping import A, AB, B, CANDIDATES, NO_NAMES, NO_NUMBERS, NO_WILDS, MethodCase, hashable, made
from tests.second import EFFECTS, Maker, second_surely_wild, turned

SMALL = Ratio(1, 10 ** 60)


EMPTY = made()
SUM = made(x=Run(A, 1), y=Run(B, 1), z=Run(A + B, 1))
FAR = {"x": 0, "y": 0, "z": 4}


def equals(*readings, slip=1):
    """Runs that all ask the same, and what they read."""
    names = "pqrstuvw"[:len(readings)]
    return made(**{name: Run(A, slip) for name in names}), dict(zip(names, readings))


class ClashCase(MethodCase):
    def passes(self, series, readings, candidate, wild=0):
        told = check_clash(series, readings, candidate, wild=wild)
        self.assertIs(told.__class__, bool)
        return told

    def holds(self, series, readings, wild):
        """Either there is a world or a clash that passes, which is returned."""
        clash = clash_of(series, readings, wild=wild)
        self.assertIs(clash is None, world_of(series, readings, wild=wild) is not None)
        if clash is not None:
            self.assertIs(clash.__class__, tuple)
            self.assertIn(len(clash), range(1, 29))
            for combination in clash:
                self.assertIs(combination.__class__, dict)
                self.assertLessEqual(set(combination), set(series.names()))
                for value in combination.values():
                    self.assertIs(value.__class__, Ratio)
                    self.assertNotEqual(value, 0)
            self.assertTrue(self.passes(series, readings, clash, wild))
        return clash


class ErrorTest(ClashCase):
    FUNCTIONS = (
        lambda series, readings, wild: clash_of(series, readings, wild=wild),
        lambda series, readings, wild: check_clash(series, readings, ({},), wild=wild),
        lambda series, readings, wild: check_clash(series, readings, None, wild=wild),
        lambda series, readings, wild: surely_wild(series, readings, wild=wild),
    )

    def test_no_wild_comes_first(self):
        for function in self.FUNCTIONS:
            for wild in NO_WILDS:
                for series in (EMPTY, SUM):
                    for readings in ({}, FAR, {"x": None}):
                        self.refused(NoWild, (), function, series, readings, wild)

    def test_no_readings(self):
        for function in self.FUNCTIONS:
            for wild in (0, 1, 2):
                for readings, name in (({}, "x"), ({"z": 1, "y": 1}, "x"), ({"x": 1, "z": 1, "Y": 1}, "y"),
                                       ({"x": 0, "y": 9}, "z"), ({"x": 1, "y": "1", "z": None}, "y")):
                    self.refused(NoReadings, (name,), function, SUM, readings, wild)
                for value in NO_NUMBERS:
                    self.refused(NoReadings, ("z",), function, SUM, {**FAR, "z": value}, wild)

    def test_keys_that_are_no_names_of_the_series(self):
        more = {**FAR, "w": None, "": 1, None: 2, 5: "a", ("x",): [], "X": 9}
        self.assertEqual(clash_of(SUM, more), clash_of(SUM, FAR))
        self.assertTrue(self.passes(SUM, more, clash_of(SUM, FAR)))
        self.assertEqual(surely_wild(SUM, more, wild=1), [])
        self.assertIsNone(clash_of(EMPTY, more))


class ClashTest(ClashCase):
    def test_ordinary(self):
        clash = self.holds(SUM, FAR, 0)
        self.assertEqual(len(clash), 1)
        self.assertEqual(sorted(clash[0]), ["x", "y", "z"])
        self.assertIsNone(self.holds(SUM, {"x": 0, "y": 0, "z": 3}, 0))
        self.assertIsNone(self.holds(SUM, FAR, 1))
        self.assertIsNotNone(self.holds(SUM, {"x": 0, "y": 0, "z": -3 - SMALL}, 0))

    def test_no_run(self):
        for wild in (0, 1, 2):
            self.assertIsNone(self.holds(EMPTY, {}, wild))

    def test_at_most_so_many_runs(self):
        series = made(x=Run(nothing(AB), 0), y=Run(nothing(AB), 1))
        readings = {"x": 1, "y": -5}
        self.assertIsNotNone(self.holds(series, readings, 0))
        self.assertIsNotNone(self.holds(series, readings, 1))
        self.assertIsNone(self.holds(series, readings, 2))

    def test_one_wild_run_too_many(self):
        series, readings = equals(0, 0, 5, 0, 9, -9, 0, 20)
        self.assertIsNotNone(self.holds(series, readings, 2))
        series.drop("r")
        self.assertIsNotNone(self.holds(series, readings, 2))
        series.drop("u")
        self.assertIsNone(self.holds(series, readings, 2))
        self.assertIsNotNone(self.holds(series, readings, 1))
        series.drop("w")
        self.assertIsNone(self.holds(series, readings, 1))

    def test_eight_runs_that_all_differ(self):
        series, readings = equals(0, 10, 20, 30, 40, 50, 60, 70)
        for wild in (0, 1, 2):
            self.assertIsNotNone(self.holds(series, readings, wild))

    def test_exactly_one_of_both(self):
        maker = Maker(61)
        seen = {True: 0, False: 0}
        for series, _ in maker.cases(120):
            readings = maker.readings(series, wild=maker.chance.randint(0, 3), spread=1 + maker.chance.randint(0, 1))
            for wild in (0, 1, 2):
                clash = self.holds(series, readings, wild)
                seen[clash is None] += 1
                self.assertEqual(clash, clash_of(turned(series), readings, wild=wild))
        self.assertGreater(min(seen.values()), 50)

    def test_results_are_new(self):
        clash_of(SUM, FAR)[0].clear()
        self.holds(SUM, FAR, 0)
        series, readings = equals(0, 5, 10, 15)
        clash = clash_of(series, readings, wild=1)
        self.assertEqual(len({id(combination) for combination in clash}), len(clash))

    def test_arguments_stay(self):
        series, readings = SUM.copy(), dict(FAR)
        clash_of(series, readings, wild=1)
        surely_wild(series, readings, wild=1)
        self.assertEqual((series, readings), (SUM, FAR))


class CheckTest(ClashCase):
    GOOD = {"x": -1, "y": -1, "z": 1}

    def test_ordinary(self):
        for factor in (1, 5, Ratio(1, 3), 10 ** 5000):
            self.assertTrue(self.passes(SUM, FAR, ({name: factor * self.GOOD[name] for name in "xyz"},)))
        self.assertTrue(self.passes(SUM, FAR, (self.GOOD, self.GOOD)))
        self.assertFalse(self.passes(SUM, FAR, (self.GOOD,), 1))

    def test_the_other_sign(self):
        self.assertFalse(self.passes(SUM, FAR, ({"x": 1, "y": 1, "z": -1},)))
        self.assertTrue(self.passes(SUM, {"x": 0, "y": 0, "z": -4}, ({"x": 1, "y": 1, "z": -1},)))

    def test_greater_than_the_slips(self):
        self.assertFalse(self.passes(SUM, {"x": 0, "y": 0, "z": 3}, (self.GOOD,)))
        self.assertTrue(self.passes(SUM, {"x": 0, "y": 0, "z": 3 + SMALL}, (self.GOOD,)))

    def test_asks_nothing(self):
        for bad in ({"z": 1}, {"x": -1, "z": 1}, {"x": -1, "y": -1, "z": 2}, {"x": -1, "y": -1, "z": 1 + SMALL}):
            self.assertFalse(self.passes(SUM, {"x": -99, "y": -99, "z": 99}, (bad,)))
        self.assertFalse(self.passes(SUM, FAR, ({},)))
        self.assertFalse(self.passes(SUM, FAR, ({"x": 0},)))

    def test_keys_and_values(self):
        for key in (*hashable(NO_NAMES), "w", "xx"):
            self.assertFalse(self.passes(SUM, FAR, ({**self.GOOD, key: 0},)))
            self.assertFalse(self.passes(SUM, {**FAR, key: 5}, ({**self.GOOD, key: 1},)))
        for value in NO_NUMBERS:
            self.assertFalse(self.passes(SUM, FAR, ({**self.GOOD, "z": value},)))
        self.assertFalse(self.passes(SUM, FAR, ({"x": -1, "y": -1, "z": True},)))

    def test_zeros_use_nothing(self):
        series, readings = equals(0, 5, 10, 15)
        self.assertTrue(self.passes(series, readings, ({"p": -1, "q": 1, "r": 0}, {"r": -1, "s": 1, "p": 0, "q": Ratio(0)}), 1))
        self.assertFalse(self.passes(series, readings, ({"p": -1, "q": 1}, {"r": -1, "s": 1, "p": SMALL, "q": -SMALL}), 1))

    def test_no_tuple(self):
        for candidate in ([self.GOOD], self.GOOD, [], (), [()], ([self.GOOD],), ((self.GOOD,),), (self.GOOD, None)):
            self.assertFalse(self.passes(SUM, FAR, candidate))

    def test_candidates_of_every_kind(self):
        series, readings = equals(0, 5, 10, 15)
        for candidate in CANDIDATES:
            for wild in (0, 1, 2):
                self.assertFalse(self.passes(SUM, FAR, candidate, wild))
                self.assertFalse(self.passes(series, readings, candidate, wild))
                self.assertFalse(self.passes(EMPTY, {}, candidate, wild))
            self.assertFalse(self.passes(SUM, FAR, (candidate,)))
            self.assertFalse(self.passes(SUM, FAR, (self.GOOD, candidate)))

    def test_too_few(self):
        series, readings = equals(0, 5, 10, 15, 20)
        pairs = tuple({one: -1, other: 1} for one, other in ("pq", "rs", "st"))
        for wild, least in ((0, 1), (1, 2)):
            for count in range(4):
                self.assertIs(self.passes(series, readings, pairs[:count], wild), count >= least)
        self.assertFalse(self.passes(series, readings, pairs, 2))
        self.assertTrue(self.passes(series, readings, (*pairs, {"p": -1, "r": 1}, {"q": -1, "t": 1}), 2))

    def test_at_most_so_many_runs(self):
        series = made(x=Run(nothing(AB), 0), y=Run(nothing(AB), 0))
        readings = {"x": 1, "y": 1}
        both = ({"x": 1}, {"y": 1})
        for wild, told in ((0, True), (1, True), (2, False)):
            self.assertIs(self.passes(series, readings, both, wild), told)
        self.assertFalse(self.passes(EMPTY, {}, ({},)))

    def test_spoiled_in_one_place(self):
        maker = Maker(62)
        seen = 0
        for series, _ in maker.cases(150):
            readings = maker.readings(series, wild=3, spread=2)
            for wild in (0, 1, 2):
                clash = self.holds(series, readings, wild)
                if clash is None:
                    continue
                seen += 1
                self.assertFalse(self.passes(series, readings, list(clash), wild))
                for at, combination in enumerate(clash):
                    negated = {name: -value for name, value in combination.items()}
                    name = max(combination)
                    asked = series[name].question
                    bad = [negated, {}, None, {**combination, "none": 0}, {**combination, name: None}]
                    if asked != nothing(series.effects):
                        bad.append({**combination, name: combination[name] + 1})
                        bad.append({key: value for key, value in combination.items() if key != name})
                    for other in bad:
                        self.assertFalse(self.passes(series, readings, (*clash[:at], other, *clash[at + 1:]), wild))
                if wild == 0:
                    self.assertFalse(self.passes(series, readings, clash[1:], wild))
        self.assertGreater(seen, 60)


class SurelyWildTest(ClashCase):
    def told(self, series, readings, wild):
        names = surely_wild(series, readings, wild=wild)
        self.assertIs(names.__class__, list)
        return names

    def test_none(self):
        for wild in (0, 1, 2):
            self.assertEqual(self.told(*equals(0, 1, 2), wild), [])
            self.assertEqual(self.told(EMPTY, {}, wild), [])

    def test_without_wild_runs(self):
        self.assertEqual(self.told(SUM, {"x": 0, "y": 0, "z": 3}, 0), [])
        self.refused(Clash, (), lambda: surely_wild(SUM, FAR))

    def test_one(self):
        self.assertEqual(self.told(*equals(0, 1, 9, 2), 1), ["r"])
        self.assertEqual(self.told(*equals(9, 0, 1, 2), 2), ["p"])

    def test_two(self):
        self.assertEqual(self.told(*equals(0, 9, 1, 2, -9), 2), ["q", "t"])
        self.refused(Clash, (), lambda: surely_wild(*equals(0, 9, 1, 2, -9), wild=1))

    def test_a_run_that_only_one_world_explains(self):
        self.assertEqual(self.told(*equals(0, 9), 1), [])
        self.assertEqual(self.told(*equals(0, 1, 3), 1), [])
        self.assertEqual(self.told(*equals(0, 0, 3, 3), 2), [])
        self.assertEqual(self.told(*equals(0, 0, 3, 9), 2), ["r", "s"])
        self.assertEqual(self.told(*equals(0, 2, 4, 9), 2), ["s"])
        self.assertEqual(self.told(*equals(0, 0, 0, 3, 9), 2), ["s", "t"])

    def test_at_most_so_many_runs(self):
        # Every world fits, but none makes the question of zeros answer anything else.
        zeros = made(x=Run(nothing(AB), 1), y=Run(A, 0))
        for wild in (1, 2):
            self.assertEqual(self.told(zeros, {"x": 2, "y": 7}, wild), ["x"])
            self.assertEqual(self.told(zeros, {"x": 1, "y": 7}, wild), [])
        self.refused(Clash, (), lambda: surely_wild(zeros, {"x": 2, "y": 7}))
        one = made(x=Run(nothing(AB), 1))
        for wild in (1, 2):
            self.assertEqual(self.told(one, {"x": -2}, wild), ["x"])
        both = made(x=Run(nothing(AB), 1), y=Run(nothing(AB), 0))
        self.assertEqual(self.told(both, {"x": 2, "y": 1}, 2), ["x", "y"])
        self.refused(Clash, (), lambda: surely_wild(both, {"x": 2, "y": 1}, wild=1))

    def test_exactly_the_slip(self):
        self.assertEqual(self.told(*equals(0, 0, 0, 2), 1), [])
        self.assertEqual(self.told(*equals(0, 0, 0, 2 + SMALL), 1), ["s"])

    def test_a_second_way(self):
        maker = Maker(63, most=2)
        counts = {}
        for series, _ in maker.cases(70, most_effects=2, most_runs=7):
            readings = maker.readings(series, wild=maker.chance.randint(0, 3))
            for wild in (0, 1, 2):
                expected = second_surely_wild(series, readings, wild)
                if expected is None:
                    self.refused(Clash, (), lambda: surely_wild(series, readings, wild=wild))
                    kind = None
                else:
                    self.assertEqual(self.told(series, readings, wild), expected)
                    self.assertEqual(self.told(turned(series), readings, wild), expected)
                    kind = len(expected)
                counts[kind] = counts.get(kind, 0) + 1
        self.assertGreater(min(counts[None], counts[0], counts[1], counts[2]), 3)

    def test_lists_are_new(self):
        series, readings = equals(0, 1, 9, 2)
        surely_wild(series, readings, wild=1).clear()
        self.assertEqual(self.told(series, readings, 1), ["r"])

    def test_behind_each_change(self):
        series, readings = equals(0, 1, 9, 2)
        series.drop("r")
        self.assertEqual(self.told(series, readings, 1), [])
        self.assertIsNone(clash_of(series, readings))
        series["r"] = Run(A, 0)
        self.assertEqual(self.told(series, readings, 1), ["r"])
        self.assertIsNotNone(self.holds(series, readings, 0))
        series["r"] = Run(A, 8)
        self.assertEqual(self.told(series, readings, 1), [])


class SpeedTest(ClashCase):
    def test_eight_runs_over_four_effects(self):
        maker = Maker(64, most=99)
        series = maker.series(EFFECTS, 8)
        far = {name: 10 ** (3 + at) for at, name in enumerate(series.names())}
        near = maker.readings(series, wild=2)
        for action, kind in ((lambda: clash_of(series, far, wild=2), tuple),
                             (lambda: surely_wild(series, near, wild=2), list)):
            start = time.perf_counter()
            self.assertIsInstance(action(), kind)
            self.assertLess(time.perf_counter() - start, 1)


if __name__ == "__main__":
    unittest.main()
