"""[38] to [40]: the cheapest choice, the evidence for it, and prices."""

import time
import unittest

from anymethod.buying import check_cheapest, cheapest, evidence, prices
from anymethod.errors import Full, NoGoals, NoWild, OtherEffects, Twice
from anymethod.methods import fooled
from anymethod.offers import Goal, Offer
from anymethod.questions import Question, effect, nothing
from anymethod.ratios import Ratio
from anymethod.readings import Estimator, estimate, fits, stretches
from anymethod.runs import Run
from anymethod.series import Series
from anymethod.telling import least_error
from tests.helping import A, AB, B, CANDIDATES, NO_INTEGERS, NO_WILDS, MethodCase, made
from tests.second import EFFECTS, Maker, fraction, second_least_error, turned

EMPTY = made()
ONE = made(w=Run(B, 9))
OFFER = Offer(AB, [("x", Run(A, 1), 3), ("y", Run(A + B, 2), 1), ("z", Run(B, 5), 1)])
TWIN = Offer(("b", "a"), [("x", Run(effect(("b", "a"), "a"), 1), 3)])
SMALL = Ratio(1, 10 ** 40)


def reached(series, goal):
    """Whether the series meets the goal, by a second way to compute."""
    error = second_least_error(series, goal.question, goal.wild)
    return error is not None and error <= fraction(goal.error)


def joined(series, offer, names):
    """The series with these offered runs, put in one by one."""
    whole = series.copy()
    for name, run, _ in offer.rows:
        if name in names:
            whole[name] = run
    return whole


def second_cheapest(series, offer, goals):
    best = None
    costs = {name: cost for name, _, cost in offer.rows}
    for bits in range(2 ** len(costs)):
        names = tuple(name for at, name in enumerate(sorted(costs)) if bits >> at & 1)
        key = (sum(costs[name] for name in names), len(names), names)
        if (best is None or key < best) and all(reached(joined(series, offer, names), goal) for goal in goals):
            best = key
    return None if best is None else (best[0], best[2])


def markets(seed, count, most_goals=3, wilds=(0, 0, 1)):
    """Series of few runs with an offer and goals, which are met by some choice more often than not."""
    maker = Maker(seed, most=2)
    for at in range(count):
        effects = EFFECTS[:1 + at % 3]
        series = maker.series(effects, maker.chance.randint(0, 3))
        rows = [("o" + str(k), maker.run(effects), maker.chance.randint(0, 4))
                for k in range(maker.chance.randint(1, 5))]
        maker.chance.shuffle(rows)
        goals = [Goal(maker.question(effects), maker.chance.choice((0, 1, 3, 10, 40)), wild=maker.chance.choice(wilds))
                 for _ in range(maker.chance.randint(1, most_goals))]
        yield series, Offer(effects, rows), goals


class BuyingCase(MethodCase):
    def passes(self, series, offer, goals, answer, found):
        told = check_cheapest(series, offer, goals, answer, found)
        self.assertIs(told.__class__, bool)
        return told

    def bought(self, series, offer, goals):
        """The answer, whose form and evidence are looked at."""
        answer, found = cheapest(series, offer, goals), evidence(series, offer, goals)
        if answer is not None:
            self.assertIs(answer.__class__, tuple)
            total, names = answer
            self.assertIs(total.__class__, int)
            self.assertIs(names.__class__, tuple)
        self.evidence_holds(series, offer, goals, answer, found)
        self.assertTrue(self.passes(series, offer, goals, answer, found))
        return answer

    def evidence_holds(self, series, offer, goals, answer, found):
        self.assertIs(found.__class__, tuple)
        self.assertLessEqual(len(found), 32)
        for pair in found:
            self.assertIs(pair.__class__, tuple)
            place, world = pair
            self.assertIs(place.__class__, int)
            self.assertIn(place, range(len(goals)))
            self.assertIs(world.__class__, tuple)
            self.assertEqual([number.__class__ for number in world], [Ratio] * len(series.effects))
        for pair in offer.choices():
            if pair == answer:
                return
            whole = joined(series, offer, pair[1])
            self.assertTrue(any(
                len(whole.seen_by(world)) <= 2 * goals[place].wild
                and goals[place].question.at(world) > goals[place].error
                for place, world in found
            ))


class ErrorTest(BuyingCase):
    FUNCTIONS = (
        cheapest, evidence,
        lambda series, offer, goals: check_cheapest(series, offer, goals, None, ()),
        lambda series, offer, goals: check_cheapest(series, offer, goals, [1], [1]),
        lambda series, offer, goals: check_cheapest(series, offer, goals, (0, ()), None),
    )
    GOAL = Goal(A, 1)
    OTHER = Goal(effect(("b", "a"), "a"), 1)
    FOUR = made(a=Run(A, 1), b=Run(A, 1), c=Run(A, 1), d=Run(A, 1))
    TWICE = made(y=Run(A + B, 2), z=Run(A, 1))

    def test_no_goals(self):
        goal = self.GOAL
        for function in self.FUNCTIONS:
            for goals in (*CANDIDATES, goal, OFFER, {0: goal}, iter([goal])):
                if not isinstance(goals, (list, tuple)) or goals == [] or goals == ():
                    for series, offer in ((ONE, OFFER), (self.FOUR, TWIN), (self.TWICE, OFFER)):
                        self.refused(NoGoals, (-1,), function, series, offer, goals)
            for goals in ([goal] * 4, (None,) * 4, (goal,) * 40):
                self.refused(NoGoals, (-1,), function, self.FOUR, TWIN, goals)

    def test_no_goal_at_a_place(self):
        for function in self.FUNCTIONS:
            for thing in (*[thing for thing in CANDIDATES if not isinstance(thing, Goal)], (A, 1), [A, 1, 0], A):
                for goals, place in (([thing], 0), ((self.GOAL, thing), 1), ([self.OTHER, self.GOAL, thing], 2),
                                     ((self.GOAL, thing, None), 1), ([thing, 5, self.GOAL], 0)):
                    self.refused(NoGoals, (place,), function, self.FOUR, TWIN, goals)

    def test_other_effects(self):
        goal = self.GOAL
        far = Goal(effect(("a",), "a"), 1)
        for function in self.FUNCTIONS:
            for series in (EMPTY, ONE, self.FOUR, made(x=Run(A, 1))):
                self.refused(OtherEffects, (), function, series, TWIN, [goal])
            for series in (EMPTY, self.FOUR, self.TWICE):
                for goals in ([self.OTHER], (goal, far), [goal, goal, self.OTHER], (far, goal)):
                    self.refused(OtherEffects, (), function, series, OFFER, goals)
            self.refused(OtherEffects, (), function, EMPTY, TWIN, [self.OTHER])
            self.refused(OtherEffects, (), function, Series(("a",)), OFFER, [goal])

    def test_full(self):
        goal = self.GOAL
        for function in self.FUNCTIONS:
            for count in range(4, 9):
                series = made(**{"r" + str(at): Run(A, 1) for at in range(count)})
                self.refused(Full, (count,), function, series, OFFER, [goal])
            self.refused(Full, (4,), function, made(x=Run(A, 1), y=Run(A, 1), z=Run(A, 1), w=Run(A, 1)), OFFER, [goal])

    def test_twice(self):
        for function in self.FUNCTIONS:
            self.refused(Twice, ("y",), function, self.TWICE, OFFER, [self.GOAL])
            self.refused(Twice, ("z",), function, made(z=Run(A, 1), w=Run(A, 1)), OFFER, [self.GOAL])
            # Even the very run that is offered.
            self.refused(Twice, ("x",), function, made(x=Run(A, 1)), OFFER, [self.GOAL])


class CheapestTest(BuyingCase):
    def test_ordinary(self):
        self.assertEqual(self.bought(EMPTY, OFFER, [Goal(B, 5)]), (1, ("z",)))
        self.assertEqual(self.bought(EMPTY, OFFER, [Goal(B, 3)]), (4, ("x", "y")))
        self.assertEqual(self.bought(EMPTY, OFFER, (Goal(A, 7), Goal(B, 5))), (2, ("y", "z")))
        self.assertEqual(self.bought(EMPTY, OFFER, [Goal(A, 7), Goal(B, 5), Goal(A - B, 6)]), (4, ("x", "y")))

    def test_exactly_the_error(self):
        self.assertEqual(self.bought(EMPTY, OFFER, [Goal(B, 3)]), (4, ("x", "y")))
        self.assertIsNone(self.bought(EMPTY, OFFER, [Goal(B, 3 - SMALL)]))
        self.assertEqual(self.bought(EMPTY, OFFER, [Goal(B, 5 - SMALL)]), (4, ("x", "y")))

    def test_no_choice_is_good(self):
        self.assertIsNone(self.bought(EMPTY, OFFER, [Goal(A, 0)]))
        self.assertIsNone(self.bought(ONE, Offer(AB, [("x", Run(2 * B, 1), 0)]), [Goal(A, 10 ** 9)]))
        self.assertIsNone(self.bought(EMPTY, OFFER, [Goal(B, 5), Goal(A, Ratio(1, 2))]))

    def test_the_empty_choice_is_good(self):
        for goals in ([Goal(nothing(AB), 0)], [Goal(B, 9)], (Goal(B, 9), Goal(nothing(AB), 0, wild=1), Goal(2 * B, 18))):
            self.assertEqual(self.bought(ONE, OFFER, goals), (0, ()))
        self.assertEqual(evidence(ONE, OFFER, [Goal(B, 9)]), ())

    def test_what_is_there_already_counts(self):
        self.assertEqual(self.bought(made(w=Run(A, 0)), OFFER, [Goal(B, 2)]), (1, ("y",)))
        self.assertEqual(self.bought(made(t=Run(A, 0), u=Run(A, 0), v=Run(A, 0)), OFFER, [Goal(A, 0, wild=1)]), (0, ()))

    def test_ties_of_the_total(self):
        rows = [("c", Run(A, 1), 2), ("b", Run(A, 1), 2), ("d", Run(B, 1), 1), ("e", Run(A - B, 0), 1)]
        self.assertEqual(self.bought(EMPTY, Offer(AB, rows), [Goal(A, 1)]), (2, ("b",)))
        self.assertEqual(self.bought(EMPTY, Offer(AB, rows[:1] + rows[2:]), [Goal(A, 1)]), (2, ("c",)))
        self.assertEqual(self.bought(EMPTY, Offer(AB, rows[2:]), [Goal(A, 1)]), (2, ("d", "e")))
        free = Offer(AB, [("q", Run(A, 1), 0), ("p", Run(A, 1), 0), ("o", Run(B, 1), 0)])
        self.assertEqual(self.bought(EMPTY, free, [Goal(A, 1)]), (0, ("p",)))
        self.assertEqual(self.bought(EMPTY, free, [Goal(A + B, 2)]), (0, ("o", "p")))

    def test_wild_runs(self):
        offer = Offer(AB, [(name, Run(A, at), at) for at, name in enumerate("pqrst", 1)])
        self.assertEqual(self.bought(EMPTY, offer, [Goal(A, 3, wild=1)]), (6, ("p", "q", "r")))
        self.assertEqual(self.bought(EMPTY, offer, [Goal(A, 5, wild=1)]), (6, ("p", "q", "r")))
        self.assertEqual(self.bought(EMPTY, offer, [Goal(A, 3, wild=1), Goal(A, 1)]), (6, ("p", "q", "r")))
        self.assertIsNone(self.bought(EMPTY, offer, [Goal(A, 2, wild=1)]))
        self.assertEqual(self.bought(EMPTY, offer, [Goal(A, 2)]), (1, ("p",)))

    def test_a_second_way(self):
        seen = {}
        for series, offer, goals in markets(91, 60):
            answer = self.bought(series, offer, goals)
            self.assertEqual(answer, second_cheapest(series, offer, goals))
            kind = None if answer is None else min(len(answer[1]), 2)
            seen[kind] = seen.get(kind, 0) + 1
        self.assertGreater(min(seen[None], seen[0], seen[1], seen[2]), 4)

    def test_the_same_call_again(self):
        for series, offer, goals in markets(92, 15):
            other = Offer(list(offer.effects), [list(row) for row in reversed(offer.rows)])
            for function in (cheapest, evidence):
                result = function(series, offer, goals)
                self.assertEqual(result, function(series, offer, goals))
                self.assertEqual(result, function(turned(series), other, tuple(goals)))

    def test_arguments_stay(self):
        for series, offer, goals in markets(93, 10):
            before, rows, asked = series.copy(), offer.rows, list(goals)
            found = evidence(series, offer, goals)
            check_cheapest(series, offer, goals, cheapest(series, offer, goals), found)
            self.assertEqual((series, offer.rows, goals), (before, rows, asked))

    def test_behind_a_change(self):
        series = ONE.copy()
        self.assertEqual(cheapest(series, OFFER, [Goal(B, 5)]), (1, ("z",)))
        series["w"] = Run(B, 5)
        self.assertEqual(cheapest(series, OFFER, [Goal(B, 5)]), (0, ()))


class CheckTest(BuyingCase):
    GOALS = [Goal(A, 7), Goal(B, 5)]
    ANSWER = (2, ("y", "z"))

    def setUp(self):
        self.found = evidence(EMPTY, OFFER, self.GOALS)

    def told(self, answer, found):
        return self.passes(EMPTY, OFFER, self.GOALS, answer, found)

    def test_ordinary(self):
        self.assertTrue(self.told(self.ANSWER, self.found))
        self.assertTrue(self.told(self.ANSWER, self.found[::-1]))
        self.assertTrue(self.told(self.ANSWER, self.found * 20))
        lists = tuple((place, list(world)) for place, world in self.found)
        self.assertTrue(self.told(self.ANSWER, lists))

    def test_another_answer(self):
        for answer in (None, (0, ()), (1, ("y",)), (1, ("z",)), (3, ("x",)), (4, ("x", "y")), (4, ("x", "z")),
                       (5, ("x", "y", "z"))):
            self.assertFalse(self.told(answer, self.found), answer)

    def test_dearer_ones_are_not_shown(self):
        # Even with all that can stand open for the choices before them.
        worlds = [(0, (9, -9)), (1, (9, 9)), (1, (9, -9)), (0, (100, 0)), (1, (0, 100)), (1, (-8, 8)), (0, (8, -8))]
        for answer in ((4, ("x", "z")), (5, ("x", "y", "z")), None):
            self.assertFalse(self.told(answer, (*self.found, *worlds)))

    def test_the_form_of_the_answer(self):
        for answer in ([2, ("y", "z")], (2, ["y", "z"]), (2, ("z", "y")), (2, ("y", "y", "z")), (2, ("y", "z", "z")),
                       (3, ("y", "z", "y")), (2,), (2, ("y", "z"), None), ("y", "z"), (("y", "z"), 2), (2, "yz"),
                       (2, ("y", "z", "w")), (2, ("y", "z", None)), (2, ("y", ["z"])), (2, {"y": 1, "z": 1})):
            self.assertFalse(self.told(answer, self.found), answer)

    def test_no_choice_is_good(self):
        goals = [Goal(A, 0)]
        found = evidence(EMPTY, OFFER, goals)
        self.assertTrue(self.passes(EMPTY, OFFER, goals, None, found))
        for answer in ((0, ()), (5, ("x", "y", "z")), (2, ["y", "z"]), (2, ("z", "y")), (2, ("y", "y", "z")), (2, ("w",)),
                       (2, "yz"), (2, None), (None, ("x",)), (3, ("y", "z")), (True, ("z",)), (2,), (), [], 0, False, "", {}):
            self.assertFalse(self.passes(EMPTY, OFFER, goals, answer, found), answer)
            self.assertFalse(self.passes(EMPTY, OFFER, goals, answer, ()), answer)

    def test_a_wrong_total(self):
        for total in (1, 3, 0, -2, 10 ** 20, True, Ratio(2), *NO_INTEGERS):
            self.assertFalse(self.told((total, ("y", "z")), self.found))
        # A total of 1 as True.
        found = evidence(EMPTY, OFFER, [Goal(B, 5)])
        self.assertTrue(self.passes(EMPTY, OFFER, [Goal(B, 5)], (1, ("z",)), found))
        self.assertFalse(self.passes(EMPTY, OFFER, [Goal(B, 5)], (True, ("z",)), found))
        self.assertFalse(self.passes(EMPTY, OFFER, [Goal(B, 5)], (Ratio(1), ("z",)), found))
        self.assertFalse(self.passes(ONE, OFFER, [Goal(B, 9)], (False, ()), ()))
        self.assertTrue(self.passes(ONE, OFFER, [Goal(B, 9)], (0, ()), ()))

    def test_a_pair_is_left_out(self):
        for at in range(len(self.found)):
            self.assertFalse(self.told(self.ANSWER, self.found[:at] + self.found[at + 1:]))
        self.assertFalse(self.told(self.ANSWER, ()))

    def test_a_pair_is_changed(self):
        for at, (place, world) in enumerate(self.found):
            for item in ((place, (0, 0)), (1 - place, world), (place, tuple(number.over(100) for number in world)),
                         (-1, world), (2, world), (10 ** 30, world), (True, world), (False, world), (None, world),
                         (Ratio(place), world), (str(place), world), (place, world[:1]), (place, (*world, 0)), (place, ()),
                         (place, None), (place, "ab"), (place, (None, 1)), (place, (True, 1)), (place, {0: 1, 1: 1}),
                         [place, world], (place, world, 1), (place,), (), None, place, world, "ab"):
                found = (*self.found[:at], item, *self.found[at + 1:])
                self.assertFalse(self.told(self.ANSWER, found), item)

    def test_a_pair_that_is_none_beside_good_ones(self):
        for item in ((-1, (0, 0)), (2, (0, 0)), (True, (0, 0)), (0, (0,)), (0, (0, None)), [0, (0, 0)], (0, (0, 0), 0), None):
            self.assertFalse(self.told(self.ANSWER, (*self.found, item)))
            self.assertFalse(self.passes(ONE, OFFER, [Goal(B, 9)], (0, ()), (item,)))
        self.assertTrue(self.told(self.ANSWER, (*self.found, (0, (0, 0)), (1, [5, Ratio(1, 3)]))))

    def test_no_tuple(self):
        for found in (list(self.found), [], dict(self.found), None, self.found[0], "", b""):
            self.assertFalse(self.told(self.ANSWER, found))
        self.assertFalse(self.passes(ONE, OFFER, [Goal(B, 9)], (0, ()), []))

    def test_candidates_of_every_kind(self):
        for thing in CANDIDATES:
            if thing is not None:
                self.assertFalse(self.told(thing, self.found))
                self.assertFalse(self.passes(ONE, OFFER, [Goal(B, 9)], thing, ()))
            self.assertFalse(self.told((thing, ("y", "z")), self.found))
            self.assertFalse(self.told((2, thing), self.found))
            self.assertFalse(self.told((2, (thing, "z")), self.found))
            self.assertFalse(self.told(self.ANSWER, thing))
            self.assertFalse(self.told(self.ANSWER, (*self.found, thing)))
            self.assertFalse(self.told(thing, thing))

    def test_open_is_more_than_the_error(self):
        series, offer, goals = EMPTY, Offer(AB, [("x", Run(B, 5), 1)]), [Goal(B, 5)]
        for number, told in ((5, False), (5 + SMALL, True), (-6, False), (10 ** 5000, True)):
            self.assertIs(self.passes(series, offer, goals, (1, ("x",)), ((0, (0, number)),)), told)
        self.assertFalse(self.passes(series, offer, [Goal(B, 4)], None, ((0, (0, 5 + SMALL)),)))
        self.assertTrue(self.passes(series, offer, [Goal(B, 4)], None, ((0, (0, 5)),)))

    def test_wild_runs(self):
        offer = Offer(AB, [(name, Run(A, 1), 1) for name in "pqr"])
        found = ((0, (2, 0)),)
        self.assertTrue(self.passes(EMPTY, offer, [Goal(A, 1, wild=1)], (3, ("p", "q", "r")), found))
        self.assertFalse(self.passes(EMPTY, offer, [Goal(A, 1)], (3, ("p", "q", "r")), found))
        self.assertTrue(self.passes(EMPTY, offer, [Goal(A, 1)], (1, ("p",)), found))
        self.assertFalse(self.passes(EMPTY, offer, [Goal(A, 1, wild=1)], None, found))
        self.assertTrue(self.passes(EMPTY, offer, [Goal(A, Ratio(1, 2), wild=1)], None, ((0, (1, 0)),)))

    def test_only_the_cheapest_passes(self):
        for series, offer, goals in markets(94, 25):
            answer = cheapest(series, offer, goals)
            everything = evidence(series, offer, goals)
            for pair in [None, *offer.choices()]:
                worlds = everything
                if pair is not None and pair != answer:
                    rest = [Goal(goal.question, goal.error, wild=goal.wild) for goal in goals]
                    worlds = (*everything, *((place, [5 * number for number in world])
                                             for place, world in evidence(series, offer, rest)))
                self.assertIs(self.passes(series, offer, goals, pair, worlds), pair == answer)


class PricesTest(BuyingCase):
    def steps(self, series, offer, question, wild=0):
        steps = prices(series, offer, question, wild=wild)
        self.assertIs(steps.__class__, list)
        for step in steps:
            self.assertIs(step.__class__, tuple)
            total, names, error = step
            self.assertEqual((total.__class__, names.__class__), (int, tuple))
            if step is not steps[0] or error is not None:
                self.assertIs(error.__class__, Ratio)
        return steps

    def test_ordinary(self):
        self.assertEqual(self.steps(EMPTY, OFFER, B), [(0, (), None), (1, ("z",), 5), (4, ("x", "y"), 3)])
        self.assertEqual(self.steps(ONE, OFFER, B), [(0, (), 9), (1, ("z",), 5), (4, ("x", "y"), 3)])
        self.assertEqual(self.steps(EMPTY, OFFER, A), [(0, (), None), (2, ("y", "z"), 7), (3, ("x",), 1)])
        self.assertEqual(self.steps(EMPTY, OFFER, nothing(AB)), [(0, (), 0)])
        self.assertEqual(self.steps(EMPTY, OFFER, A, 1), [(0, (), None)])
        self.assertEqual(self.steps(made(t=Run(A, 2), u=Run(A, 3)), OFFER, A, 1), [(0, (), None), (2, ("y", "z"), 7),
                                                                                    (3, ("x",), 3)])

    def test_no_step_without_a_smaller_error(self):
        offer = Offer(AB, [("x", Run(A, 1), 0), ("y", Run(A, 1), 1), ("z", Run(2 * A, 1), 1)])
        self.assertEqual(self.steps(EMPTY, offer, A), [(0, (), None), (0, ("x",), 1), (1, ("z",), Ratio(1, 2))])

    def test_a_second_way(self):
        counts = {}
        for at, (series, offer, goals) in enumerate(markets(95, 40, most_goals=1)):
            question, wild = goals[0].question, at % 2
            expected = []
            for total, names in offer.choices():
                error = second_least_error(joined(series, offer, names), question, wild)
                if expected == [] or (error is not None and (expected[-1][2] is None or error < expected[-1][2])):
                    expected.append((total, names, error))
            steps = self.steps(series, offer, question, wild)
            self.assertEqual([(total, names, None if error is None else fraction(error)) for total, names, error in steps],
                             expected)
            counts[min(len(steps), 3)] = counts.get(min(len(steps), 3), 0) + 1
        self.assertGreater(min(counts[1], counts[2], counts[3]), 2)

    def test_fact(self):
        for at, (series, offer, goals) in enumerate(markets(96, 30, most_goals=1)):
            question, wild = goals[0].question, at % 2
            steps = prices(series, offer, question, wild=wild)
            for _, _, edge in steps:
                for error in (0, Ratio(1, 2), 4, *(() if edge is None else (edge, edge + SMALL, edge.over(2)))):
                    first = [(total, names) for total, names, least in steps if least is not None and least <= error]
                    answer = cheapest(series, offer, [Goal(question, error, wild=wild)])
                    self.assertEqual(answer, first[0] if first else None)

    def test_other_effects_come_first(self):
        four = ErrorTest.FOUR
        for wild in (0, 2, None):
            for series in (EMPTY, four, made(x=Run(A, 1))):
                for question in (effect(("b", "a"), "a"), effect(("a",), "a"), Question(("a", "b", "c"), (1, 1, 1))):
                    self.refused(OtherEffects, (), lambda: prices(series, OFFER, question, wild=wild))
                self.refused(OtherEffects, (), lambda: prices(series, TWIN, A, wild=wild))
            self.refused(OtherEffects, (), lambda: prices(EMPTY, TWIN, effect(("b", "a"), "a"), wild=wild))

    def test_no_wild(self):
        for wild in (2, *NO_WILDS):
            for series in (EMPTY, ErrorTest.FOUR, made(x=Run(A, 1))):
                self.refused(NoWild, (), lambda: prices(series, OFFER, A, wild=wild))

    def test_full_and_twice(self):
        for wild in (0, 1):
            for count in range(4, 9):
                series = made(**{name: Run(A, 1) for name in "zyxwvuts"[:count]})
                self.refused(Full, (count,), lambda: prices(series, OFFER, A, wild=wild))
            self.refused(Twice, ("y",), lambda: prices(ErrorTest.TWICE, OFFER, A, wild=wild))
            self.refused(Twice, ("x",), lambda: prices(made(x=Run(A, 1), z=Run(B, 1)), OFFER, A, wild=wild))

    def test_lists_are_new(self):
        prices(EMPTY, OFFER, B).clear()
        self.assertEqual(len(prices(EMPTY, OFFER, B)), 3)


class KeptTest(BuyingCase):
    """What is bought keeps its goal for the estimate, for Estimator and for fooled."""

    def test_the_goal_is_kept(self):
        seen = 0
        maker = Maker(97, most=2)
        for series, offer, goals in markets(98, 60):
            answer = cheapest(series, offer, goals)
            if answer is None:
                continue
            whole = series | offer.series_of(answer[1])
            for goal in goals:
                readings = maker.readings(whole, wild=goal.wild)
                middle = estimate(whole, goal.question, readings, wild=goal.wild)
                self.assertEqual(middle, Estimator(whole, goal.question, wild=goal.wild)(readings))
                for low, high in stretches(whole, goal.question, readings, wild=goal.wild):
                    self.assertLessEqual(abs(low - middle), goal.error)
                    self.assertLessEqual(abs(high - middle), goal.error)
                method = Estimator(whole, goal.question, wild=goal.wild)
                given, world = fooled(whole, goal.question, method, wild=goal.wild)
                self.assertIs(fits(whole, world, given, wild=goal.wild), True)
                off = abs(method(given) - goal.question.at(world))
                self.assertLessEqual(off, goal.error)
                self.assertEqual(off, least_error(whole, goal.question, wild=goal.wild))
                seen += 1
        self.assertGreater(seen, 30)


class SpeedTest(BuyingCase):
    def test_five_offered_runs_and_three_goals(self):
        for most in (2, 99, 10 ** 60):
            for wild in (0, 1):
                maker = Maker(99, most=most)
                series = maker.series(EFFECTS, 3)
                offer = Offer(EFFECTS, [("o" + str(at), maker.run(EFFECTS), 1) for at in range(5)])
                questions = [maker.question(EFFECTS) for _ in range(3)]
                for error in (0, 1, most):
                    goals = [Goal(question, error, wild=wild) for question in questions]
                    start = time.perf_counter()
                    answer = cheapest(series, offer, goals)
                    self.assertTrue(self.passes(series, offer, goals, answer, evidence(series, offer, goals)))
                    prices(series, offer, questions[0], wild=wild)
                    self.assertLess(time.perf_counter() - start, 0.9)


if __name__ == "__main__":
    unittest.main()
