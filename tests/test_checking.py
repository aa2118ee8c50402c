"""[20] to [22]: what passes as a Bound or an Open, and what does not."""

import unittest

from anymethod.checking import check_bound, check_open
from anymethod.errors import NoWild, OtherEffects
from anymethod.questions import effect, nothing
from anymethod.ratios import Ratio
from anymethod.runs import Run
from anymethod.telling import Bound, Open, bound_of, least_error, open_of
from tests.helping import A, AB, B, CANDIDATES, NO_NAMES, NO_NUMBERS, NO_WILDS, MethodCase, hashable, made
from tests.second import Maker

SMALL = Ratio(1, 10 ** 60)


EMPTY = made()
XY = made(x=Run(A, 1), y=Run(A + B, 2))
FIVE = made(v=Run(A, 5), w=Run(A, 4), x=Run(A, 3), y=Run(A, 2), z=Run(A, 1))


class CheckCase(MethodCase):
    def passes(self, check, series, question, candidate, wild=0):
        told = check(series, question, candidate, wild=wild)
        self.assertIs(told.__class__, bool)
        return told

    def bound(self, series, question, error, weights, wild=0):
        return self.passes(check_bound, series, question, Bound(error, weights), wild)

    def open(self, series, question, error, world, wild=0):
        return self.passes(check_open, series, question, Open(error, world), wild)


class ErrorTest(CheckCase):
    def test_other_effects_come_first(self):
        for check in (check_bound, check_open):
            for question in (effect(("b", "a"), "a"), effect(("a",), "a"), nothing(("a", "b", "c"))):
                for wild in (0, 5, None, True):
                    for candidate in (None, Bound(0, ({},)), Open(0, (0, 0))):
                        for series in (EMPTY, XY):
                            self.refused(OtherEffects, (), lambda: check(series, question, candidate, wild=wild))

    def test_no_wild(self):
        for check in (check_bound, check_open):
            for wild in NO_WILDS:
                for candidate in (None, Bound(0, ({},)), Open(0, (0, 0))):
                    for series in (EMPTY, XY):
                        self.refused(NoWild, (), lambda: check(series, A, candidate, wild=wild))

    def test_candidates_of_every_kind(self):
        for candidate in CANDIDATES:
            for wild in (0, 1, 2):
                for check in (check_bound, check_open):
                    self.assertFalse(self.passes(check, XY, B, candidate, wild))
                self.assertFalse(self.passes(check_open, XY, nothing(AB), candidate, wild))

    def test_one_kind_is_not_the_other(self):
        self.assertFalse(self.passes(check_bound, XY, B, Open(3, ({"x": -1, "y": 1},))))
        self.assertFalse(self.passes(check_open, XY, B, Bound(3, (-1, 3))))
        self.assertFalse(self.passes(check_bound, XY, B, open_of(XY, B)))
        self.assertFalse(self.passes(check_open, XY, B, bound_of(XY, B)))

    def test_strange_fields(self):
        for thing in CANDIDATES:
            self.assertFalse(self.bound(XY, B, 3, thing))
            self.assertFalse(self.bound(XY, B, 3, (thing,)))
            self.assertFalse(self.bound(XY, B, 3, ({"x": -1, "y": 1}, thing)))
            self.assertFalse(self.open(XY, B, 3, thing))
            self.assertFalse(self.open(XY, B, None, thing))
            self.assertFalse(self.open(XY, B, 3, (thing, thing)))


class FoundTest(CheckCase):
    """What bound_of and open_of return passes, and with equal errors they show the least error."""

    def test_all_wilds(self):
        maker = Maker(41)
        seen = 0
        for series, question in maker.cases(80):
            for wild in (0, 1, 2):
                bound, found = bound_of(series, question, wild=wild), open_of(series, question, wild=wild)
                self.assertTrue(self.passes(check_open, series, question, found, wild))
                if bound is None:
                    self.assertFalse(self.passes(check_bound, series, question, bound, wild))
                    continue
                seen += bound.error != 0
                self.assertTrue(self.passes(check_bound, series, question, bound, wild))
                self.assertFalse(self.bound(series, question, bound.error - SMALL, bound.weights, wild))
                self.assertTrue(self.bound(series, question, bound.error + SMALL, bound.weights, wild))
                self.assertFalse(self.open(series, question, found.error - SMALL, found.world, wild))
                self.assertFalse(self.open(series, question, found.error + SMALL, found.world, wild))
        self.assertGreater(seen, 60)

    def test_eight_runs(self):
        maker = Maker(42, most=9)
        for effects in (("a",), AB, ("a", "b", "c"), ("a", "b", "c", "d")):
            series, question = maker.series(effects, 8), maker.question(effects)
            for wild in (0, 1, 2):
                self.assertTrue(self.passes(check_bound, series, question, bound_of(series, question, wild=wild), wild))
                self.assertTrue(self.passes(check_open, series, question, open_of(series, question, wild=wild), wild))


class BoundTest(CheckCase):
    WEIGHTS = {"x": -1, "y": 1}

    def test_ordinary(self):
        for error in (3, Ratio(3), 4, Ratio(31, 10), 10 ** 5000):
            self.assertTrue(self.bound(XY, B, error, [self.WEIGHTS]))
            self.assertTrue(self.bound(XY, B, error, ({"y": Ratio(1), "x": Ratio(-1)},)))

    def test_another_error(self):
        for error in (3 - SMALL, 2, 0, -3, Ratio(-1, 2), *NO_NUMBERS):
            self.assertFalse(self.bound(XY, B, error, (self.WEIGHTS,)))

    def test_other_weights(self):
        for weights in ({"x": -1}, {"y": 1}, {}, {"x": 1, "y": 1}, {"x": -1, "y": 2}, {"x": Ratio(-1) + SMALL, "y": 1},
                        {"x": -1, "y": 1, "z": 0}, {"x": -1, "y": 1, "z": 1}, {"x": -1, "z": 1}, {"x": 0, "y": 1},
                        {"x": -1, "y": 1, "Y": 0}):
            self.assertFalse(self.bound(XY, B, 3, [weights]))
            self.assertFalse(self.bound(XY, B, 3, [self.WEIGHTS, weights]))
            self.assertFalse(self.bound(XY, B, 100, [weights, self.WEIGHTS]))

    def test_keys_that_are_no_names(self):
        for key in hashable(NO_NAMES):
            self.assertFalse(self.bound(XY, B, 3, ({**self.WEIGHTS, key: 0},)))

    def test_values_that_are_no_numbers(self):
        for value in NO_NUMBERS:
            self.assertFalse(self.bound(XY, B, 3, ({"x": -1, "y": value},)))
            self.assertFalse(self.bound(XY, B, 3, (self.WEIGHTS, {"x": value, "y": 1})))
        self.assertFalse(self.bound(made(x=Run(A, 1)), A, 1, ({"x": True},)))
        self.assertFalse(self.bound(made(x=Run(A, 1), y=Run(B, 1)), A, 1, ({"x": 1, "y": False},)))

    def test_weights_that_are_no_tuple_of_combinations(self):
        for weights in ((), [], None, self.WEIGHTS, "xy", (("x", -1), ("y", 1)), ([("x", -1), ("y", 1)],), ((self.WEIGHTS,),),
                        [[self.WEIGHTS]]):
            self.assertFalse(self.bound(XY, B, 3, weights))

    def test_zeros_use_nothing(self):
        self.assertTrue(self.bound(FIVE, A, 1, ({"v": 0, "z": 1},)))
        self.assertTrue(self.bound(EMPTY, nothing(AB), 0, ({},)))
        self.assertTrue(self.bound(XY, nothing(AB), 0, ({"x": 0, "y": Ratio(0)},)))
        combinations = ({"z": 1, "y": 0, "x": 0}, {"y": 1, "z": 0}, {"x": 1, "v": 0, "w": 0})
        self.assertTrue(self.bound(FIVE, A, 3, combinations, 1))

    def test_each_combination_must_reach_the_error(self):
        self.assertTrue(self.bound(FIVE, A, 5, ({"v": 1}, {"w": 1}, {"x": 1})))
        self.assertFalse(self.bound(FIVE, A, 4, ({"v": 1}, {"w": 1}, {"x": 1})))
        self.assertFalse(self.bound(FIVE, A, 1, ({"z": 1}, {"y": 1})))

    def test_too_few_combinations(self):
        singles = [{name: 1} for name in "vwxyz"]
        for wild, least in ((0, 1), (1, 3), (2, 5)):
            for count in range(6):
                self.assertIs(self.bound(FIVE, A, 5, singles[:count], wild), count >= least)
        self.assertTrue(self.bound(FIVE, A, 5, singles * 40, 2))
        halves = [{"v": Ratio(1, 2), "w": Ratio(1, 2)}, {"w": 1}, {"v": 1}, {"x": 1}]
        self.assertTrue(self.bound(FIVE, A, 5, halves, 1))
        self.assertFalse(self.bound(FIVE, A, 5, halves[:2] + halves[3:], 1))

    def test_at_most_twice_as_many_runs_as_wild_ones(self):
        for wild in (0, 1, 2):
            self.assertTrue(self.bound(EMPTY, nothing(AB), 0, ({},), wild))
            self.assertFalse(self.bound(EMPTY, nothing(AB), 0, (), wild))
            self.assertFalse(self.bound(EMPTY, A, 0, ({},), wild))
        self.assertTrue(self.bound(XY, nothing(AB), 0, ({},), 1))
        self.assertFalse(self.bound(XY, A, 1, ({"x": 1},), 1))
        twin = made(x=Run(A, 1), y=Run(A, 1))
        self.assertFalse(self.bound(twin, A, 1, ({"x": 1}, {"y": 1}), 1))
        self.assertFalse(self.bound(twin, nothing(AB), 2, ({"x": 1, "y": -1},), 1))

    def test_only_this_series(self):
        bound = bound_of(XY, B)
        self.assertFalse(self.passes(check_bound, made(x=Run(A, 2), y=Run(A + B, 2)), B, bound))
        self.assertTrue(self.passes(check_bound, made(x=Run(A, 0), y=Run(A + B, 2)), B, bound))
        self.assertFalse(self.passes(check_bound, XY, 2 * B, bound))
        self.assertFalse(self.passes(check_bound, XY, A, bound))

    def test_numbers_of_any_length(self):
        great = Ratio(10 ** 9000, 7)
        series = made(x=Run(A, 1))
        self.assertTrue(self.bound(series, A, great, ({"x": 1},)))
        self.assertFalse(self.bound(series, A, great, ({"x": great},)))


class OpenTest(CheckCase):
    def test_ordinary(self):
        for world in ((-1, 3), [Ratio(-1), 3]):
            self.assertTrue(self.open(XY, B, 3, world))
            self.assertTrue(self.open(XY, B, Ratio(3), world))
        self.assertTrue(self.open(XY, B, 2, (0, 2)))
        self.assertTrue(self.open(XY, B, 0, (0, 0)))
        self.assertTrue(self.open(EMPTY, A, 10 ** 5000, (10 ** 5000, 0)))

    def test_another_error(self):
        for error in (2, 4, 0, -3, 3 - SMALL, 3 + SMALL, None, *NO_NUMBERS):
            self.assertFalse(self.open(XY, B, error, (-1, 3)))
        self.assertFalse(self.open(XY, B, -2, (0, -2)))
        self.assertFalse(self.open(XY, B, Ratio(-1, 2), (0, Ratio(-1, 2))))

    def test_another_world(self):
        for world in ((1, 3), (-1, 2), (-2, 3), (0, 3), (-1, 3 + SMALL), (-1,), (-1, 3, 0), (), [], None, "13", 3,
                      (-1, [3]), ((-1, 3),), (-1, "3"), (-1, None), {0: -1, 1: 3}, {"a": -1, "b": 3}, (True, 3), b"ab"):
            self.assertFalse(self.open(XY, B, 3, world))

    def test_seen_by_at_most_so_many_runs(self):
        for count in range(6):
            value = count + Ratio(1, 2)
            for wild in (0, 1, 2):
                self.assertIs(self.open(FIVE, A, value, (value, 0), wild), count <= 2 * wild)
        self.assertTrue(self.open(FIVE, A, 1, (1, 0)))
        self.assertTrue(self.open(FIVE, A, 3, (3, 0), 1))

    def test_none(self):
        series = made(x=Run(A, 1), y=Run(A, 10), z=Run(B, 5), w=Run(nothing(AB), 0))
        for wild, told in ((0, False), (1, True), (2, True)):
            self.assertIs(self.open(series, A, None, (1, 0), wild), told)
        self.assertTrue(self.open(series, A + B, None, (1, 0), 1))
        self.assertFalse(self.open(series, A + B, None, (Ratio(1, 2), Ratio(1, 2)), 1))
        self.assertTrue(self.open(series, A + B, None, (Ratio(1, 2), Ratio(1, 2)), 2))
        self.assertFalse(self.open(series, A, None, (2, 0), 1))
        self.assertFalse(self.open(series, A, None, (-1, 0), 1))
        self.assertFalse(self.open(series, A, None, (0, 0), 1))
        self.assertTrue(self.open(EMPTY, A, None, (1, 7)))

    def test_none_asks_for_exactly_zero(self):
        # The run does not see the world, but its question's answer there is not 0.
        series = made(x=Run(A, 100))
        self.assertEqual(series.seen_by((1, 0)), [])
        self.assertFalse(self.open(series, A, None, (1, 0)))
        self.assertFalse(self.open(series, A + B, None, (SMALL, 1 - SMALL)))
        self.assertTrue(self.open(series, A + B, None, (0, 1)))
        self.assertTrue(self.open(series, A, 1, (1, 0)))


class TogetherTest(CheckCase):
    def test_no_bound_is_below_an_open(self):
        maker = Maker(43)
        for series, question in maker.cases(40):
            for wild in (0, 1):
                error = least_error(series, question, wild=wild)
                world = [maker.number() for _ in series.effects]
                answer = question.at(world)
                if self.open(series, question, answer, world, wild):
                    self.assertTrue(error is None or answer <= error)

    def test_behind_each_change(self):
        series = XY.copy()
        bound = bound_of(series, B)
        series["x"] = Run(A, 2)
        self.assertFalse(self.passes(check_bound, series, B, bound))
        with series.trying():
            series["x"] = Run(A, 1)
        self.assertTrue(self.passes(check_bound, series, B, bound))
        series.drop("y")
        self.assertFalse(self.passes(check_bound, series, B, bound))

    def test_nothing_is_changed(self):
        candidate, series = Bound(3, [{"x": -1, "y": 1, "z": 0}]), XY.copy()
        self.passes(check_bound, series, B, candidate)
        self.assertEqual(candidate, Bound(3, [{"x": -1, "y": 1, "z": 0}]))
        self.assertEqual(series, XY)


if __name__ == "__main__":
    unittest.main()
