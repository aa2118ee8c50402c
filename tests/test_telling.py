"""[17] to [19], [21] to [23]: the least error, the bounds, the worlds and the twin readings."""

import time
import unittest
from fractions import Fraction

from anymethod.errors import NoWild, OtherEffects
from anymethod.questions import Question, effect, nothing
from anymethod.ratios import Ratio
from anymethod.runs import Run
from anymethod.series import Series
from anymethod.telling import Bound, Open, bound_of, least_error, open_of, twin_readings
from tests.helping import A, AB, B, NO_WILDS, MethodCase, made
from tests.second import (
    EFFECTS, Maker, cost, fraction, lost_sets, second_greatest_answer, second_least_error, turned, weights_of,
)

FUNCTIONS = (least_error, bound_of, open_of, twin_readings)


XY = made(x=Run(A, 1), y=Run(A + B, 2))


def least(error, question, wild=0, **runs):
    return error == least_error(made(**runs), question, wild=wild)


class TellingCase(MethodCase):
    def number(self, value):
        self.assertIs(value.__class__, Ratio)
        return fraction(value)

    def worlds(self, world, effects):
        self.assertIs(world.__class__, tuple)
        self.assertEqual(len(world), len(effects))
        for value in world:
            self.number(value)

    def bound_holds(self, series, question, wild, error):
        bound = bound_of(series, question, wild=wild)
        if error is None:
            self.assertIsNone(bound)
            return
        self.assertIs(bound.__class__, Bound)
        self.assertEqual(self.number(bound.error), error)
        self.assertIs(bound.weights.__class__, tuple)
        self.assertIn(len(bound.weights), range(1, 71) if wild else (1,))
        for combination in bound.weights:
            self.assertIs(combination.__class__, dict)
            self.assertLessEqual(set(combination), set(series.names()))
            self.assertNotIn(0, [self.number(value) for value in combination.values()])
            made_weights = [Fraction(0) for _ in series.effects]
            for name, value in combination.items():
                for at, weight in enumerate(weights_of(series[name].question)):
                    made_weights[at] += fraction(value) * weight
            self.assertEqual(tuple(made_weights), weights_of(question))
            values = {name: fraction(value) for name, value in combination.items()}
            self.assertLessEqual(cost(series, values), error)
        for lost in lost_sets(series, 2 * wild):
            self.assertTrue(any(not set(lost) & set(combination) for combination in bound.weights))

    def open_holds(self, series, question, wild, error):
        found = open_of(series, question, wild=wild)
        self.assertIs(found.__class__, Open)
        self.worlds(found.world, series.effects)
        answers = {name: fraction(series[name].question.at(found.world)) for name in series.names()}
        if error is None:
            self.assertIsNone(found.error)
            self.assertEqual(question.at(found.world), 1)
            self.assertLessEqual(len([name for name in answers if answers[name] != 0]), 2 * wild)
        else:
            self.assertEqual(self.number(found.error), error)
            self.assertEqual(question.at(found.world), found.error)
            seeing = [name for name in answers if abs(answers[name]) > fraction(series[name].slip)]
            self.assertLessEqual(len(seeing), 2 * wild)

    def twins_hold(self, series, question, wild, error):
        triple = twin_readings(series, question, wild=wild)
        self.assertIs(triple.__class__, tuple)
        readings, one, other = triple
        self.assertIs(readings.__class__, dict)
        self.assertEqual(sorted(readings), series.names())
        for world in (one, other):
            self.worlds(world, series.effects)
            far = [name for name, reading in readings.items()
                   if abs(self.number(reading) - fraction(series[name].question.at(world))) > fraction(series[name].slip)]
            self.assertLessEqual(len(far), wild)
        difference = question.at(one) - question.at(other)
        self.assertEqual(difference, 2 if error is None else 2 * Ratio(error.numerator, error.denominator))

    def all_holds(self, series, question, wild):
        """Everything agrees with the least error that is computed in a second way, which is returned."""
        error = second_least_error(series, question, wild)
        told = least_error(series, question, wild=wild)
        self.assertEqual(told if told is None else self.number(told), error)
        self.bound_holds(series, question, wild, error)
        self.open_holds(series, question, wild, error)
        self.twins_hold(series, question, wild, error)
        return error

    def all_wilds(self, series, question):
        return [self.all_holds(series, question, wild) for wild in (0, 1, 2)]


class ErrorTest(TellingCase):
    def test_no_wild(self):
        for function in FUNCTIONS:
            for wild in NO_WILDS:
                for series in (XY, made()):
                    with self.assertRaises(NoWild):
                        function(series, B, wild=wild)

    def test_other_effects_come_first(self):
        for function in FUNCTIONS:
            for question in (effect(("b", "a"), "a"), effect(("a",), "a"), nothing(("a", "b", "c")), nothing(("a", "c"))):
                for wild in (0, 2, 3, None, True):
                    for series in (XY, made()):
                        with self.assertRaises(OtherEffects):
                            function(series, question, wild=wild)

    def test_by_keyword_alone(self):
        for function in FUNCTIONS:
            with self.assertRaises(TypeError):
                function(XY, B, 1)


class LeastErrorTest(TellingCase):
    def test_example(self):
        self.same_ratio(least_error(XY, B), 3)
        self.assertIsNone(least_error(XY, A, wild=1))

    def test_ordinary(self):
        self.same_ratio(least_error(XY, A), 1)
        self.same_ratio(least_error(XY, A + B), 2)
        self.same_ratio(least_error(XY, A - B), 4)
        self.same_ratio(least_error(XY, Question(AB, (Ratio(1, 3), Ratio(-1, 7))), wild=0), 16, 21)

    def test_the_least_of_several_ways(self):
        self.assertTrue(least(1, A, x=Run(A, 1), y=Run(A, 2), z=Run(2 * A, 3)))
        self.assertTrue(least(Ratio(1, 2), A, x=Run(A, 1), y=Run(A, 2), z=Run(-4 * A, 2)))
        self.assertTrue(least(Ratio(3, 2), A, x=Run(A + B, 1), y=Run(A - B, 2), z=Run(A, 2)))
        self.assertTrue(least(Ratio(3, 2), A, x=Run(A + B, 1), y=Run(B - A, 2), z=Run(A, 2)))

    def test_a_world_across(self):
        # No single pair is the worst here: the corner of the limits decides.
        runs = {"x": Run(A + B, 1), "y": Run(A - B, 1), "z": Run(A, Ratio(1, 4))}
        self.assertTrue(least(Ratio(1, 4), A, **runs))
        self.assertTrue(least(1, B, **runs))
        self.assertTrue(least(Ratio(5, 4), A + B, x=runs["z"], y=Run(B, 1)))

    def test_no_run(self):
        for effects in (("a",), AB, ("a", "b", "c"), EFFECTS):
            for wild in (0, 1, 2):
                self.same_ratio(least_error(Series(effects), nothing(effects), wild=wild), 0)
                self.assertIsNone(least_error(Series(effects), effect(effects, "a"), wild=wild))
            self.all_wilds(Series(effects), nothing(effects))
            self.all_wilds(Series(effects), Ratio(-2, 3) * effect(effects, effects[-1]))

    def test_at_most_twice_as_many_runs_as_wild_ones(self):
        for count in range(6):
            series = made(("a",), **{f"r{k}": Run(effect(("a",), "a"), 1) for k in range(count)})
            for wild in (0, 1, 2):
                error = least_error(series, effect(("a",), "a"), wild=wild)
                self.assertEqual(error, None if count <= 2 * wild else 1)
                self.same_ratio(least_error(series, nothing(("a",)), wild=wild), 0)
            self.all_wilds(series, effect(("a",), "a"))
            self.all_wilds(series, nothing(("a",)))

    def test_the_question_of_zeros(self):
        for series in (XY, made(), made(x=Run(A, 0)), made(x=Run(A, 5), y=Run(-A, 0), z=Run(nothing(AB), 3))):
            self.assertEqual(self.all_wilds(series, nothing(AB)), [0, 0, 0])

    def test_runs_that_ask_the_question_of_zeros(self):
        series = made(x=Run(nothing(AB), 0), y=Run(nothing(AB), 4), z=Run(A, 3))
        self.assertEqual(self.all_wilds(series, A), [3, None, None])
        self.assertEqual(self.all_wilds(series, B), [None, None, None])
        series.drop("z")
        self.assertEqual(self.all_wilds(series, A), [None, None, None])

    def test_equal_runs(self):
        series = made(v=Run(B, 1), w=Run(A, 1), x=Run(A, 1), y=Run(A, 1), z=Run(A, 1))
        self.assertEqual(self.all_wilds(series, A), [1, 1, None])
        self.assertEqual(self.all_wilds(series, A + B), [2, None, None])
        series["u"] = Run(A, 1)
        self.assertEqual(self.all_wilds(series, A), [1, 1, 1])

    def test_the_worst_loss_counts(self):
        series = made(v=Run(A, 5), w=Run(A, 4), x=Run(A, 3), y=Run(A, 2), z=Run(A, 1))
        self.assertEqual(self.all_wilds(series, A), [1, 3, 5])
        self.assertEqual(self.all_wilds(series, -2 * A), [2, 6, 10])

    def test_slips_of_zero(self):
        series = made(x=Run(A, 0), y=Run(A + B, 0), z=Run(A - B, 0))
        for question in (A, B, 3 * A - 7 * B):
            self.assertEqual(self.all_wilds(series, question), [0, None, None])
        series = made(x=Run(A, 0), y=Run(B, 1))
        self.assertEqual(self.all_holds(series, 100 * A + B, 0), 1)

    def test_negative_weights(self):
        series = made(x=Run(-A, 1), y=Run(Ratio(-1, 2) * A - 3 * B, 2), z=Run(B, 9))
        self.assertEqual(self.all_holds(series, B, 0), Fraction(5, 6))
        self.assertEqual(self.all_holds(series, -B, 0), Fraction(5, 6))
        self.assertEqual(self.all_wilds(series, A), [1, None, None])

    def test_a_wild_run_in_two_effects(self):
        series = made(x=Run(A, 1), y=Run(B, 1), z=Run(A + B, 1), w=Run(A - B, 1))
        self.assertEqual(self.all_wilds(series, A), [1, 2, None])
        self.assertEqual(self.all_wilds(series, A + 2 * B), [2, 5, None])

    def test_great_numbers(self):
        great = Ratio(10 ** 999 + 7, 10 ** 998 + 9)
        series = made(x=Run(great * A, great), y=Run(A - great * B, Ratio(1, 10 ** 999)), z=Run(B, 10 ** 999))
        self.assertEqual(least_error(series, A), 1)
        for wild in (0, 1):
            self.all_holds(series, great * B, wild)

    def test_all_agree_for_one_to_four_effects(self):
        seen = {None: 0, 0: 0, 1: 0}
        for series, question in Maker(1).cases(100):
            for error in self.all_wilds(series, question):
                seen[error if not error else 1] += 1
        self.assertGreater(min(seen.values()), 9)

    def test_all_agree_for_eight_runs(self):
        maker = Maker(2, most=9)
        for effects in (("a",), AB, ("a", "b", "c"), EFFECTS):
            self.assertNotIn(None, self.all_wilds(maker.series(effects, 8), maker.question(effects)))

    def test_the_greatest_answer_for_two_effects(self):
        maker = Maker(3)
        for count in range(72):
            series, question = maker.series(AB, count % 9), maker.question(AB)
            for wild in (0, 1, 2):
                error = least_error(series, question, wild=wild)
                self.assertEqual(error if error is None else fraction(error),
                                 second_greatest_answer(series, question, wild))


class FactTest(TellingCase):
    """[19]"""

    def setUp(self):
        self.maker = Maker(4)

    def triples(self, count):
        for series, question in self.maker.cases(count):
            for wild in (0, 1, 2):
                yield series, question, wild

    def test_sums(self):
        for series, question, wild in self.triples(40):
            other = self.maker.question(series.effects)
            parts = [least_error(series, part, wild=wild) for part in (question, other)]
            if None not in parts:
                self.assertLessEqual(least_error(series, question + other, wild=wild), parts[0] + parts[1])

    def test_multiples(self):
        for series, question, wild in self.triples(20):
            error = least_error(series, question, wild=wild)
            self.assertEqual(least_error(series, 0 * question, wild=wild), 0)
            for number in (-1, Ratio(-3, 2), 5):
                many = least_error(series, number * question, wild=wild)
                self.assertEqual(many, None if error is None else abs(number) * error)

    def test_more_wild_runs_and_greater_slips(self):
        for series, question in self.maker.cases(30):
            errors = [least_error(series, question, wild=wild) for wild in (0, 1, 2)]
            wider = series.copy()
            for name in series.names()[:2]:
                wider[name] = Run(series[name].question, series[name].slip + 1)
            for wild in (0, 1, 2):
                for great in errors[wild:] + [least_error(wider, question, wild=wild)]:
                    self.assertTrue(great is None or (errors[wild] is not None and errors[wild] <= great))

    def test_one_run_more(self):
        for series, question, wild in self.triples(40):
            if len(series) < 8:
                error = least_error(series, question, wild=wild)
                greater = series.copy()
                greater["z"] = self.maker.run(series.effects)
                more = least_error(greater, question, wild=wild)
                self.assertTrue(error is None or (more is not None and more <= error))

    def test_all_slips_multiplied(self):
        for series, question, wild in self.triples(30):
            error = least_error(series, question, wild=wild)
            for factor in (2, Ratio(1, 3)):
                other = Series(series.effects)
                for name in series.names():
                    other[name] = Run(series[name].question, factor * series[name].slip)
                self.assertEqual(least_error(other, question, wild=wild), None if error is None else factor * error)

    def test_a_run_of_the_series(self):
        for series, _ in self.maker.cases(30):
            for name in series.names():
                self.assertLessEqual(least_error(series, series[name].question), series[name].slip)


class SameResultTest(TellingCase):
    def test_the_order_of_putting_in(self):
        for series, question in Maker(5).cases(40):
            other = turned(series)
            for wild in (0, 1, 2):
                for function in FUNCTIONS:
                    self.assertEqual(function(series, question, wild=wild), function(other, question, wild=wild))

    def test_the_same_call_again(self):
        for series, question in Maker(6).cases(15):
            before = series.copy()
            for function in FUNCTIONS:
                self.assertEqual(function(series, question, wild=1), function(series, question, wild=1))
            self.assertEqual(series, before)

    def test_behind_each_change(self):
        series = made(x=Run(A, 3))
        self.assertEqual(least_error(series, A), 3)
        series["x"] = Run(A, 2)
        self.assertEqual(least_error(series, A), 2)
        with self.assertRaises(KeyError):
            with series.trying():
                series["y"] = Run(A, 1)
                self.assertEqual(least_error(series, A), 1)
                raise KeyError
        self.assertEqual(least_error(series, A), 2)
        series |= made(z=Run(2 * A, 1))
        self.assertEqual(open_of(series, A).error, Ratio(1, 2))
        series.drop("x")
        series.drop("z")
        self.assertIsNone(bound_of(series, A))

    def test_results_are_new(self):
        for wild in (0, 1):
            series = made(w=Run(A, 1), x=Run(A, 1), y=Run(A, 2))
            first = twin_readings(series, A, wild=wild)[0]
            first["x"] = None
            first.clear()
            self.twins_hold(series, A, wild, second_least_error(series, A, wild))
            bound_of(series, A, wild=wild).weights[0].clear()
            self.bound_holds(series, A, wild, second_least_error(series, A, wild))

    def test_parts_of_one_result_are_not_shared(self):
        series = made(("a",), **{f"r{k}": Run(effect(("a",), "a"), 1) for k in range(8)})
        weights = bound_of(series, effect(("a",), "a"), wild=2).weights
        self.assertEqual(len({id(combination) for combination in weights}), len(weights))


class SpeedTest(TellingCase):
    def test_eight_runs_over_four_effects(self):
        series, question = Maker(7, most=99).series(EFFECTS, 8), Maker(8, most=99).question(EFFECTS)
        for function in FUNCTIONS:
            start = time.perf_counter()
            result = function(series, question, wild=2)
            self.assertLess(time.perf_counter() - start, 1)
            self.assertIsNotNone(result)


if __name__ == "__main__":
    unittest.main()
