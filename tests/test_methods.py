"""[24] to [26]: methods that are passed, and linear methods."""

import unittest

from anymethod.errors import Clash, NoMethod, NoReadings, NoSuch, NoWeights, NoWild, OtherEffects
from anymethod.methods import Combined, fooled, linear_case, linear_error
from anymethod.questions import Question, effect, nothing
from anymethod.ratios import Ratio
from anymethod.readings import Estimator, fits
from anymethod.runs import Run
from anymethod.telling import bound_of, least_error
from tests.helping import A, AB, B, CANDIDATES, NO_NAMES, NO_NUMBERS, NO_WILDS, MethodCase, hashable, made
from tests.second import Maker



EMPTY = made()
XY = made(x=Run(A, 1), y=Run(A + B, 2))


class CombinedTest(MethodCase):
    def test_field(self):
        method = Combined({"x": 1, "y": Ratio(-1, 3), "z": 0, "w": Ratio(0)})
        self.assertIs(method.weights.__class__, dict)
        self.assertEqual(sorted(method.weights), ["x", "y"])
        self.same_ratio(method.weights["x"], 1)
        self.same_ratio(method.weights["y"], -1, 3)
        self.assertEqual(Combined({}).weights, {})

    def test_later_changes_of_the_dict(self):
        weights = {"x": 1, "y": 0}
        method = Combined(weights)
        weights["x"] = 5
        weights["z"] = 5
        self.assertEqual(method.weights, {"x": 1})
        self.assertEqual(weights, {"x": 5, "y": 0, "z": 5})

    def test_no_dict(self):
        for weights in CANDIDATES:
            if not isinstance(weights, dict):
                self.refused(NoWeights, ("weights",), Combined, weights)

    def test_no_name(self):
        for key in hashable(NO_NAMES):
            for weights in ({key: 1}, {"x": 1, key: 0}, {key: "a"}, {"x": None, key: 1}):
                self.refused(NoWeights, ("name",), Combined, weights)

    def test_no_number(self):
        for value in NO_NUMBERS:
            self.refused(NoWeights, ("number",), Combined, {"x": value})
            self.refused(NoWeights, ("number",), Combined, {"w": 1, "x": value, "y": 0})

    def test_called(self):
        method = Combined({"x": 2, "y": Ratio(-1, 3), "z": 0})
        self.same_ratio(method({"x": 1, "y": 3}), 1)
        self.same_ratio(method({"x": Ratio(1, 2), "y": Ratio(1, 2), "z": None, "w": "a", 3: 4}), 5, 6)
        self.same_ratio(Combined({"x": 1})({"x": 0}), 0)
        self.same_ratio(Combined({"x": 3})({"x": 4}), 12)
        self.same_ratio(Combined({})({}), 0)

    def test_no_readings(self):
        method = Combined({"z": 1, "x": 1, "y": 1, "w": 0})
        for readings, name in (({}, "x"), ({"y": 1, "z": 1}, "x"), ({"x": 1, "z": 1, "X": 1}, "y"), ({"x": 1, "y": 1}, "z"),
                               ({"z": True, "y": None, "x": 1}, "y")):
            self.refused(NoReadings, (name,), method, readings)
        for value in NO_NUMBERS:
            self.refused(NoReadings, ("y",), method, {"x": 1, "y": value, "z": 1})

    def test_readings_stay(self):
        readings = {"x": 1, "q": None}
        Combined({"x": 1})(readings)
        self.assertEqual(readings, {"x": 1, "q": None})


class Spy:
    """A method that remembers what it was called with, spoils it, and returns what it was told to return."""

    def __init__(self, result):
        self.result = result
        self.calls = []

    def __call__(self, readings):
        self.calls.append((readings, dict(readings)))
        readings["x"] = None
        readings["strange"] = 5
        readings.pop("y", None)
        return self.result


class PairCase(MethodCase):
    def parts(self, series, pair, wild=0):
        """The readings and the world of a pair, which have the form that they should have and fit."""
        self.assertIs(pair.__class__, tuple)
        readings, world = pair
        self.assertIs(readings.__class__, dict)
        self.assertEqual(sorted(readings), series.names())
        self.assertIs(world.__class__, tuple)
        for value in (*readings.values(), *world):
            self.assertIs(value.__class__, Ratio)
        self.assertIs(fits(series, world, readings, wild=wild), True)
        return readings, world


class FooledTest(PairCase):
    def holds(self, series, question, method, wild=0):
        """The method errs by at least the least error; the readings are returned."""
        readings, world = self.parts(series, fooled(series, question, method, wild=wild), wild)
        error = least_error(series, question, wild=wild)
        number = method.result if isinstance(method, Spy) else method(dict(readings))
        self.assertGreaterEqual(abs(question.at(world) - number), 1 if error is None else error)
        return readings

    def test_called_once_with_new_readings(self):
        maker = Maker(51)
        for series, question in maker.cases(30):
            for wild in (0, 1, 2):
                spy = Spy(maker.number())
                readings = self.holds(series, question, spy, wild)
                self.assertEqual(len(spy.calls), 1)
                given, before = spy.calls[0]
                self.assertIs(given.__class__, dict)
                self.assertIsNot(given, readings)
                self.assertEqual(before, readings)
                for value in before.values():
                    self.assertIs(value.__class__, Ratio)

    def test_numbers(self):
        series = made(v=Run(A, 1), w=Run(A, 1), x=Run(A, 2), y=Run(A + B, 0), z=Run(B, 5))
        great = 10 ** 4999
        for question in (A, B, A - B, nothing(AB)):
            for number in (0, 1, -1, Ratio(1, 3), Ratio(-1, 3), great, -great, Ratio(1, great), Ratio(great, -3)):
                for wild in (0, 1, 2):
                    self.holds(series, question, Spy(number), wild)

    def test_a_least_error_of_none(self):
        for series in (EMPTY, XY):
            for number in (0, Ratio(1, 2), -5):
                for wild in (1, 2):
                    self.holds(series, A, Spy(number), wild)
        self.holds(EMPTY, A, Spy(7))
        self.holds(EMPTY, nothing(AB), Spy(7))

    def test_the_worst_number_that_a_method_can_tell(self):
        for number in (3, -3, Ratio(1, 10 ** 30), Ratio(-1, 10 ** 30), 0):
            self.holds(XY, B, Spy(number))

    def test_no_number(self):
        for value in NO_NUMBERS:
            spy = Spy(value)
            for wild in (0, 1, 2):
                self.refused(NoMethod, (), lambda: fooled(XY, B, spy, wild=wild))
            self.assertEqual(len(spy.calls), 3)

    def test_errors_of_the_method(self):
        for error in (KeyError("x"), ZeroDivisionError(), Clash(), NoMethod(), KeyboardInterrupt()):
            calls = []

            def method(readings):
                calls.append(readings)
                raise error

            with self.assertRaises(error.__class__) as caught:
                fooled(XY, B, method)
            self.assertIs(caught.exception, error)
            self.assertEqual(len(calls), 1)

    def test_errors_ahead_of_the_call(self):
        spy = Spy(0)
        for wild in NO_WILDS:
            self.refused(NoWild, (), lambda: fooled(XY, B, spy, wild=wild))
            self.refused(OtherEffects, (), lambda: fooled(XY, effect(("a",), "a"), spy, wild=wild))
        self.refused(OtherEffects, (), lambda: fooled(EMPTY, effect(("b", "a"), "a"), spy))
        self.assertEqual(spy.calls, [])

    def test_methods_of_the_package(self):
        for wild in (0, 1, 2):
            self.holds(XY, B, Combined({"x": -1, "y": 1}), wild)
        self.holds(XY, B, Estimator(XY, B))
        self.holds(XY, B, lambda readings: readings["y"] - readings["x"])
        self.refused(NoReadings, ("z",), lambda: fooled(XY, B, Combined({"x": 1, "z": 1})))

    def test_a_method_that_changes_the_series(self):
        series = XY.copy()

        def method(readings):
            series.drop("x")
            return 0

        readings, world = fooled(series, B, method)
        self.assertEqual(sorted(readings), ["x", "y"])
        self.assertIs(fits(XY, world, readings), True)

    def test_the_same_call_again(self):
        twin = made(y=XY["y"], x=XY["x"])
        for number in (-1, 0, 1):
            for wild in (0, 1):
                self.assertEqual(fooled(XY, B, Spy(number), wild=wild), fooled(twin, B, Spy(number), wild=wild))

    def test_results_are_new(self):
        fooled(XY, B, Spy(1))[0].clear()
        self.holds(XY, B, Spy(1))


class LinearTest(PairCase):
    def case(self, series, question, method):
        """The case errs by just the error, which is returned."""
        error = linear_error(series, question, method)
        readings, world = self.parts(series, linear_case(series, question, method))
        self.assertEqual(abs(method(readings) - question.at(world)), 1 if error is None else error)
        return error

    def test_makes_the_question(self):
        self.same_ratio(self.case(XY, B, Combined({"x": -1, "y": 1})), 3)
        self.same_ratio(self.case(XY, A, Combined({"x": 1})), 1)
        self.same_ratio(self.case(XY, 3 * A + 2 * B, Combined({"x": 1, "y": 2})), 5)
        self.same_ratio(self.case(XY, nothing(AB), Combined({})), 0)
        self.same_ratio(self.case(XY, nothing(AB), Combined({"x": 0})), 0)
        self.same_ratio(self.case(EMPTY, nothing(AB), Combined({})), 0)
        self.same_ratio(self.case(made(x=Run(A, Ratio(2, 3)), y=Run(2 * A, 1)), A, Combined({"x": -3, "y": 2})), 4)

    def test_makes_another_question(self):
        for series, question, weights in ((XY, B, {}), (XY, B, {"x": 1, "y": 1}), (XY, A, {"x": Ratio(2, 3)}),
                                          (XY, A - B, {"y": -1}), (EMPTY, Ratio(1, 7) * B, {}), (XY, nothing(AB), {"x": 1})):
            self.assertIsNone(self.case(series, question, Combined(weights)))

    def test_any(self):
        maker = Maker(52)
        seen = set()
        for series, question in maker.cases(80):
            method = Combined({name: maker.number() for name in series.names() if maker.chance.randint(0, 2)})
            sum_of_runs = nothing(series.effects)
            for name, weight in method.weights.items():
                sum_of_runs += weight * series[name].question
            error = self.case(series, sum_of_runs, method)
            least = least_error(series, sum_of_runs)
            self.assertLessEqual(least, error)
            seen.add(error == least)
            self.assertIs(self.case(series, question, method) is None, question != sum_of_runs)
        self.assertEqual(seen, {True, False})

    def test_the_bound_reaches_the_least_error(self):
        maker = Maker(53)
        for series, question in maker.cases(30):
            bound = bound_of(series, question)
            if bound is not None:
                self.assertEqual(self.case(series, question, Combined(bound.weights[0])), bound.error)

    def test_no_such_run(self):
        for function in (linear_error, linear_case):
            for weights, name in (({"z": 1}, "z"), ({"z": 1, "w": 1, "x": 1}, "w"), ({"y": 1, "xx": 2}, "xx")):
                self.refused(NoSuch, (name,), function, XY, B, Combined(weights))
                self.refused(NoSuch, (min(weights),), function, EMPTY, nothing(AB), Combined(weights))
            self.assertEqual(linear_error(XY, B, Combined({"x": -1, "y": 1, "z": 0})), 3)

    def test_other_effects_come_first(self):
        for function in (linear_error, linear_case):
            for question in (effect(("b", "a"), "a"), effect(("a",), "a"), Question(("a", "b", "c"), (0, 0, 0))):
                for weights in ({}, {"x": 1}, {"z": 1}):
                    for series in (EMPTY, XY):
                        self.refused(OtherEffects, (), function, series, question, Combined(weights))

    def test_the_same_call_again(self):
        twin, method = made(y=XY["y"], x=XY["x"]), Combined({"y": 1, "x": -2})
        for question in (B, Question(AB, (-1, 1))):
            self.assertEqual(linear_case(XY, question, method), linear_case(twin, question, method))
            linear_case(XY, question, method)[0].clear()
            self.case(XY, question, method)


if __name__ == "__main__":
    unittest.main()
