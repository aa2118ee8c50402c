"""[54]: what a series tells at all, and what it does not."""

import unittest

from anymethod.errors import OtherEffects
from anymethod.heard import heard, told_at_all, unheard
from anymethod.questions import Question, effect, nothing
from anymethod.ratios import Ratio
from anymethod.runs import Run
from anymethod.series import Series
from anymethod.telling import bound_of, least_error
from anymethod.texts import question_text
from tests.helping import A, AB, B, MethodCase, made
from tests.second import EFFECTS, Maker, fraction, silent_worlds, turned, weights_of

ABC = ("a", "b", "c")


def asking(effects, *rows):
    """A series with a run for each of these weights."""
    return made(effects, **{"r" + str(at): Run(Question(effects, row), at) for at, row in enumerate(rows)})


def first_place(question):
    return next(at for at, weight in enumerate(question.weights) if weight != 0)


class HeardCase(MethodCase):
    def holds(self, series):
        """The texts of what is heard, of which everything is looked at."""
        questions, worlds = heard(series), unheard(series)
        self.assertIs(questions.__class__, list)
        self.assertIs(worlds.__class__, list)
        self.assertEqual(len(questions) + len(worlds), len(series.effects))
        places = [first_place(question) for question in questions]
        self.assertEqual(places, sorted(set(places)))
        for question in questions:
            self.assertIs(question.__class__, Question)
            self.assertEqual(question.effects, series.effects)
            for place in places:
                self.assertEqual(question.weights[place], int(place == first_place(question)))
            self.assertIsNotNone(least_error(series, question))
            self.assertIs(told_at_all(series, question), True)
        rest = [at for at in range(len(series.effects)) if at not in places]
        for at, world in zip(rest, worlds):
            self.assertIs(world.__class__, tuple)
            self.assertEqual([number.__class__ for number in world], [Ratio] * len(series.effects))
            for place, number in enumerate(world):
                if place in places:
                    self.assertEqual(number, -questions[places.index(place)].weights[at])
                else:
                    self.assertEqual(number, int(place == at))
            for name in series.names():
                self.assertEqual(series[name].question.at(world), 0)
        return [question_text(question) for question in questions]


class HeardTest(HeardCase):
    def test_example(self):
        series = asking(ABC, (2, 4, 0), (1, 2, 1))
        self.assertEqual(self.holds(series), ["a + 2*b", "c"])
        self.assertEqual(unheard(series), [(-2, 1, 0)])
        self.same_ratios(unheard(series)[0], [-2, 1, 0])
        self.assertEqual([told_at_all(series, effect(ABC, name)) for name in ABC], [False, False, True])

    def test_no_run(self):
        for effects in (("a",), AB, EFFECTS):
            self.assertEqual(self.holds(Series(effects)), [])
            size = len(effects)
            self.assertEqual(unheard(Series(effects)), [tuple(int(at == place) for at in range(size)) for place in range(size)])

    def test_runs_of_the_question_of_zeros(self):
        series = made(x=Run(nothing(AB), 0), y=Run(nothing(AB), 5))
        self.assertEqual(self.holds(series), [])
        self.assertEqual(unheard(series), [(1, 0), (0, 1)])
        self.assertIs(told_at_all(series, nothing(AB)), True)
        self.assertIs(told_at_all(series, A), False)
        series["z"] = Run(3 * B, 1)
        self.assertEqual(self.holds(series), ["b"])

    def test_runs_that_depend_on_each_other(self):
        self.assertEqual(self.holds(asking(AB, (1, 2), (2, 4), (Ratio(-1, 3), Ratio(-2, 3)))), ["a + 2*b"])
        self.assertEqual(self.holds(asking(ABC, (1, 1, 0), (0, 1, 1), (1, 0, -1))), ["a - c", "b + c"])
        self.assertEqual(self.holds(asking(ABC, (1, 1, 0), (0, 1, 1), (1, 0, 1), (5, 5, 5))), ["a", "b", "c"])

    def test_as_many_independent_runs_as_effects(self):
        series = asking(EFFECTS, (0, 0, 0, 3), (0, 0, 2, 1), (0, -1, 4, 4), (7, 1, 1, 1))
        self.assertEqual(self.holds(series), list(EFFECTS))
        self.assertEqual(unheard(series), [])
        self.assertEqual(self.holds(asking(("e",), (-3,))), ["e"])

    def test_first_places_in_any_order(self):
        self.assertEqual(self.holds(asking(EFFECTS, (0, 0, 1, 5), (0, 2, 0, 0))), ["b", "c + 5*d"])
        self.assertEqual(self.holds(asking(EFFECTS, (0, 0, 1, 5), (3, 0, 0, 0), (0, 0, 0, 0))), ["a", "c + 5*d"])
        self.assertEqual(self.holds(asking(EFFECTS, (0, 1, 1, 0), (1, 1, 1, 1))), ["a + d", "b + c"])
        self.assertEqual(self.holds(asking(EFFECTS, (0, 0, 0, 2), (1, 2, 3, 4))), ["a + 2*b + 3*c", "d"])

    def test_slips_mean_nothing(self):
        for slip in (0, 1, 10 ** 50):
            self.assertEqual(self.holds(made(x=Run(A + B, slip), y=Run(A + B, 0))), ["a + b"])

    def test_a_second_way(self):
        seen = set()
        for series, _ in Maker(161, most=2).cases(120):
            self.holds(series)
            rows = [weights_of(series[name].question) for name in series.names()]
            worlds = [tuple(fraction(number) for number in world) for world in unheard(series)]
            self.assertEqual(worlds, [tuple(world) for world in silent_worlds(rows, len(series.effects))])
            self.assertEqual((heard(turned(series)), unheard(turned(series))), (heard(series), unheard(series)))
            seen.add((len(series.effects), len(worlds)))
        self.assertGreater(len(seen), 12)

    def test_great_numbers(self):
        great = Ratio(10 ** 999 + 7, 10 ** 998 + 9)
        series = asking(ABC, (great, 1, 0), (1, great, great), (0, 1, Ratio(1, 10 ** 999)))
        self.assertEqual(self.holds(series), ["a", "b", "c"])

    def test_results_are_new(self):
        series = asking(ABC, (2, 4, 0))
        heard(series).clear()
        unheard(series).clear()
        self.assertEqual(self.holds(series), ["a + 2*b"])

    def test_the_series_stays(self):
        series = asking(ABC, (2, 4, 0), (1, 2, 1))
        before = series.copy()
        heard(series)
        unheard(series)
        told_at_all(series, effect(ABC, "a"))
        self.assertEqual(series, before)
        series.drop("r1")
        self.assertEqual(self.holds(series), ["a + 2*b"])


class ToldAtAllTest(HeardCase):
    def test_other_effects(self):
        for series in (made(), made(x=Run(A, 1))):
            for question in (effect(("b", "a"), "a"), effect(("a",), "a"), nothing(ABC), nothing(("a", "c"))):
                self.refused(OtherEffects, (), told_at_all, series, question)

    def test_facts(self):
        maker = Maker(162, most=2)
        seen = {True: 0, False: 0}
        for series, question in maker.cases(120):
            asked = [question, nothing(series.effects)]
            if len(series):
                asked.append(sum([maker.number() * series[name].question for name in series.names()], nothing(series.effects)))
            for each in asked:
                told = told_at_all(series, each)
                self.assertIs(told.__class__, bool)
                self.assertIs(told, least_error(series, each) is not None)
                self.assertIs(told, bound_of(series, each) is not None)
                self.assertIs(told, all(each.at(world) == 0 for world in unheard(series)))
                if told:
                    parts = [part * each.weights[first_place(part)] for part in heard(series)]
                    self.assertEqual(sum(parts, nothing(series.effects)), each)
                seen[told] += 1
        self.assertGreater(min(seen.values()), 20)


if __name__ == "__main__":
    unittest.main()
