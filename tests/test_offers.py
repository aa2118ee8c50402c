"""[36] and [37]: offers, their choices, and goals."""

import inspect
import unittest
from itertools import combinations

from anymethod.errors import NoGoal, NoOffer, NoQuestion, NoSuch
from anymethod.offers import Goal, Offer
from anymethod.questions import Question, effect, nothing
from anymethod.ratios import Ratio
from anymethod.runs import Run
from anymethod.series import Series
from anymethod.telling import Bound
from tests.helping import A, AB, B, CANDIDATES, NO_EFFECTS, NO_INTEGERS, NO_NAMES, NO_NUMBERS, NO_RUNS, NO_SEQUENCES, \
    NO_WILDS, MethodCase, made

X = Run(A, 1)
Y = Run(A + B, 2)
Z = Run(B, Ratio(1, 2))
TURNED = Run(effect(("b", "a"), "a"), 1)
ROWS = [("x", X, 3), ("y", Y, 1), ("z", Z, 1)]
OFFER = Offer(AB, ROWS)


class CreatedTest(MethodCase):
    def test_fields(self):
        for effects in (AB, list(AB)):
            for rows in (ROWS, tuple(ROWS), [list(row) for row in ROWS], (ROWS[0], list(ROWS[1]), ROWS[2])):
                offer = Offer(effects, rows)
                self.assertEqual(offer.effects, AB)
                self.assertIs(offer.effects.__class__, tuple)
                self.assertIs(offer.rows.__class__, tuple)
                self.assertEqual(offer.rows, tuple(ROWS))
                for row in offer.rows:
                    self.assertIs(row.__class__, tuple)
        self.assertIs(OFFER.rows[0][1], X)
        self.assertEqual(Offer(rows=ROWS, effects=AB), OFFER)

    def test_ascending_by_name(self):
        offer = Offer(AB, [("b", X, 1), ("a10", Y, 2), ("aa", Z, 3), ("a9", X, 4), ("a", Y, 5)])
        self.assertEqual([row[0] for row in offer.rows], ["a", "a10", "a9", "aa", "b"])
        self.assertEqual([row[2] for row in offer.rows], [5, 2, 4, 3, 1])

    def test_one_row_and_five(self):
        for count in range(1, 6):
            rows = [("r" + str(at), X, at) for at in range(count)]
            self.assertEqual(Offer(AB, rows).rows, tuple(rows))
            self.assertEqual(Offer(AB, rows[::-1]).rows, tuple(rows))

    def test_later_changes_of_the_lists(self):
        effects, rows = ["a", "b"], [["x", X, 3], ["y", Y, 1]]
        offer = Offer(effects, rows)
        effects.append("c")
        rows[0][2] = 9
        rows[1][0] = "w"
        rows.append(["z", Z, 1])
        self.assertEqual(offer.effects, AB)
        self.assertEqual(offer.rows, (("x", X, 3), ("y", Y, 1)))

    def test_costs(self):
        for cost in (0, 1, 10 ** 9 - 1, 10 ** 9):
            offer = Offer(AB, [("x", X, cost)])
            self.assertEqual(offer.rows[0][2], cost)
            self.assertIs(offer.rows[0][2].__class__, int)
        for cost in (10 ** 9 + 1, -1, 10 ** 30, -10 ** 9, *NO_INTEGERS):
            self.refused(NoOffer, (0, "cost"), Offer, AB, [("x", X, cost)])
            self.refused(NoOffer, (1, "cost"), Offer, AB, [("y", Y, 0), ("x", X, cost)])


class NoOfferTest(MethodCase):
    def test_no_effects_come_first(self):
        for effects in NO_EFFECTS:
            for rows in (ROWS, [], None):
                self.refused(NoQuestion, ("effects",), Offer, effects, rows)

    def test_no_rows(self):
        for rows in (*NO_SEQUENCES, OFFER, (), [], [("r" + str(at), X, 1) for at in range(6)], (None,) * 6, "abc"):
            self.refused(NoOffer, (-1, "rows"), Offer, AB, rows)

    def faults(self):
        """Rows that are wrong beside a row called "x", with the word of each of them."""
        for row in (*NO_SEQUENCES, "abc", (), [], ("y",), ("y", Y), ["y", Y], ("y", Y, 1, 1), ["y", Y, 1, 1], {"y": Y},
                    b"abc", range(3), OFFER):
            yield row, "row"
        for name in NO_NAMES:
            yield (name, Y, 1), "name"
            yield [name, None, None], "name"
        yield ("x", Y, 1), "twice"
        yield ["x", X, 3], "twice"
        yield ("x", None, None), "twice"
        for run in NO_RUNS:
            yield ("y", run, 1), "run"
            yield ["y", run, -1], "run"
        for run in (TURNED, Run(effect(("a",), "a"), 1), Run(nothing(("a", "b", "c")), 1)):
            yield ("y", run, 1), "effects"
            yield ("y", run, True), "effects"
        for cost in (-1, 10 ** 9 + 1, True, False, None, Ratio(1), Ratio(1, 2), "1", [1]):
            yield ("y", Y, cost), "cost"

    def test_each_word_at_each_place(self):
        rest = [("u", X, 1), ("v", X, 1), ("w", X, 1)]
        for row, word in self.faults():
            for place in range(1, 5):
                rows = [("x", X, 1), *rest[:place - 1], row, *rest[place - 1:]]
                self.refused(NoOffer, (place, word), Offer, AB, rows)
            self.refused(NoOffer, (1, word), Offer, AB, (("x", X, 1), row))
            if word != "twice":
                self.refused(NoOffer, (0, word), Offer, AB, [row])

    def test_two_faults_in_two_rows(self):
        found = list(self.faults())[::5] + [(("x", Y, 1), "twice")]
        for one, word in found:
            for other, _ in found:
                self.refused(NoOffer, (1, word), Offer, AB, [("x", X, 1), one, other])
                self.refused(NoOffer, (1, word), Offer, AB, [("x", X, 1), one, ("w", X, 1), other, one])

    def test_twice_needs_an_earlier_row(self):
        self.refused(NoOffer, (2, "twice"), Offer, AB, [("x", X, 1), ("y", Y, 1), ("x", X, 1)])
        self.refused(NoOffer, (0, "cost"), Offer, AB, [("x", X, -1), ("x", X, 1)])
        self.refused(NoOffer, (4, "twice"), Offer, AB, [(name, X, 1) for name in "abcdd"])


class EqualityTest(MethodCase):
    def test_equal(self):
        other = Offer(["a", "b"], [["z", Run(effect(AB, "b"), Ratio(2, 4)), 1], ["y", Y, 1], ["x", X, 3]])
        self.assertIs(OFFER == other, True)
        self.assertIs(OFFER != other, False)

    def test_unequal(self):
        others = [Offer(AB, ROWS[:2]), Offer(AB, [("x", X, 2), *ROWS[1:]]), Offer(AB, [("w", X, 3), *ROWS[1:]]),
                  Offer(AB, [("x", Y, 3), *ROWS[1:]]), Offer(("b", "a"), [("x", TURNED, 3)]),
                  None, 0, (), tuple(ROWS), OFFER.rows, "", {}, X, A, made(x=X), Ratio(1), Goal(A, 1), Offer]
        for other in others:
            self.assertIs(OFFER == other, False)
            self.assertIs(other == OFFER, False)
            self.assertIs(OFFER != other, True)


class NamesTest(MethodCase):
    def test_total(self):
        for names, total in (((), 0), ([], 0), (("x",), 3), (["y", "x"], 4), (("z", "y", "x"), 5), (["z", "z"], 1),
                             (("x", "y", "x", "y", "x"), 4)):
            self.assertEqual(OFFER.total(names), total)
            self.assertIs(OFFER.total(names).__class__, int)
        self.assertEqual(OFFER.total(names=["x"]), 3)
        great = Offer(AB, [(name, X, 10 ** 9) for name in "abcde"])
        self.assertEqual(great.total("a b c d e".split()), 5 * 10 ** 9)

    def test_series_of(self):
        for names in ((), ("x",), ["z", "x"], ("y", "x", "z"), ["y", "y"]):
            series = OFFER.series_of(names)
            self.assertIs(series.__class__, Series)
            self.assertEqual(series, made(**{name: run for name, run, _ in ROWS if name in names}))
        self.assertIs(OFFER.series_of(["x"])["x"], X)
        self.assertEqual(OFFER.series_of(names=()).effects, AB)

    def test_no_such(self):
        for action in (OFFER.total, OFFER.series_of):
            for name in ("w", "xx", "", "X", *NO_NAMES, X, OFFER):
                for names in ([name], ("x", name), [name, "q", None], ["y", "x", "z", "x", name, "w"]):
                    with self.assertRaises(NoSuch) as caught:
                        action(names)
                    self.assertIs(caught.exception.name, name)

    def test_the_series_is_new(self):
        series = OFFER.series_of(("x", "y"))
        series.drop("x")
        series["y"] = Z
        self.assertEqual(OFFER.series_of(("x", "y")), made(x=X, y=Y))
        self.assertEqual(OFFER, Offer(AB, ROWS))

    def test_arguments_stay(self):
        names = ["z", "x", "z"]
        OFFER.total(names)
        OFFER.series_of(names)
        self.assertEqual(names, ["z", "x", "z"])


class ChoicesTest(MethodCase):
    def expected(self, offer):
        """All choices by total, number of names and names."""
        costs = {name: cost for name, _, cost in offer.rows}
        found = [names for count in range(len(costs) + 1) for names in combinations(sorted(costs), count)]
        keys = sorted((sum(costs[name] for name in names), len(names), names) for names in found)
        return [(total, names) for total, _, names in keys]

    def holds(self, *costs, names="abcde"):
        offer = Offer(AB, [(name, X, cost) for name, cost in zip(names, costs)])
        pairs = list(offer.choices())
        self.assertEqual(pairs, self.expected(offer))
        self.assertEqual(len(pairs), 2 ** len(costs))
        for pair in pairs:
            self.assertIs(pair.__class__, tuple)
            self.assertIs(pair[0].__class__, int)
            self.assertIs(pair[1].__class__, tuple)
            self.assertEqual(pair[0], offer.total(pair[1]))
        return pairs

    def test_generator(self):
        self.assertTrue(inspect.isgeneratorfunction(Offer.choices))
        steps = OFFER.choices()
        self.assertTrue(inspect.isgenerator(steps))
        self.assertEqual(next(steps), (0, ()))
        self.assertEqual(next(steps), (1, ("y",)))
        self.assertEqual(next(OFFER.choices()), (0, ()))
        self.assertEqual(list(steps), [(1, ("z",)), (2, ("y", "z")), (3, ("x",)), (4, ("x", "y")), (4, ("x", "z")),
                                       (5, ("x", "y", "z"))])
        self.assertEqual(list(steps), [])

    def test_costs_that_differ(self):
        self.holds(1, 2, 4, 8, 16)
        self.holds(16, 8, 4, 2, 1)
        self.assertEqual(self.holds(5), [(0, ()), (5, ("a",))])

    def test_equal_costs(self):
        pairs = self.holds(1, 1, 1, 1, 1)
        self.assertEqual([len(names) for _, names in pairs], sorted(len(names) for _, names in pairs))
        self.holds(1, 2, 3, 4, 5)
        self.holds(3, 2, 1, 3, 3)
        self.holds(10 ** 9, 10 ** 9, 10 ** 9, 5, 10 ** 9 - 5)

    def test_costs_of_zero(self):
        pairs = self.holds(0, 0, 0)
        self.assertEqual(pairs[:5], [(0, ()), (0, ("a",)), (0, ("b",)), (0, ("c",)), (0, ("a", "b"))])
        self.holds(0, 1, 0, 1, 0)
        self.holds(0, 0, 0, 0, 0)
        self.assertEqual(self.holds(1, 0, 1)[:4], [(0, ()), (0, ("b",)), (1, ("a",)), (1, ("c",))])

    def test_fewer_names_come_first(self):
        self.assertEqual([names for total, names in self.holds(3, 1, 2) if total == 3], [("a",), ("b", "c")])

    def test_the_tuple_decides(self):
        pairs = self.holds(1, 1, 1, 1, 1, names=["a", "a1", "aa", "b", "a0"])
        self.assertEqual([names for _, names in pairs][1:6], [("a",), ("a0",), ("a1",), ("aa",), ("b",)])


class GoalTest(MethodCase):
    def test_fields(self):
        goal = Goal(A, 2)
        self.assertIs(goal.question, A)
        self.same_ratio(goal.error, 2)
        self.assertEqual(goal.wild, 0)
        goal = Goal(error=Ratio(2, 4), wild=1, question=B)
        self.same_ratio(goal.error, 1, 2)
        self.assertEqual(goal.wild, 1)
        self.assertIs(goal.wild.__class__, int)
        self.same_ratio(Goal(A, 0).error, 0)

    def test_no_goal(self):
        for question in (*CANDIDATES, X):
            if isinstance(question, Question):
                continue
            for error in (1, -1, None):
                for wild in (0, 2, None):
                    self.refused(NoGoal, ("question",), lambda: Goal(question, error, wild=wild))
        for error in (*NO_NUMBERS, -1, Ratio(-1, 10 ** 50)):
            for wild in (0, 1, 2, None):
                self.refused(NoGoal, ("error",), lambda: Goal(A, error, wild=wild))
        for wild in (2, *NO_WILDS):
            self.refused(NoGoal, ("wild",), lambda: Goal(A, 1, wild=wild))

    def test_wild_is_named(self):
        with self.assertRaises(TypeError):
            Goal(A, 1, 1)

    def test_equality(self):
        self.assertIs(Goal(A, 1) == Goal(effect(["a", "b"], "a"), Ratio(2, 2), wild=0), True)
        self.assertIs(Goal(A, 1) != Goal(A, 1), False)
        for other in (Goal(B, 1), Goal(A, 2), Goal(A, 1, wild=1), Goal(effect(("a",), "a"), 1), None, 0, A, X, (A, 1, 0), [],
                      "", {}, OFFER, Bound(1, ()), Ratio(1), Goal):
            self.assertIs(Goal(A, 1) == other, False)
            self.assertIs(other == Goal(A, 1), False)
            self.assertIs(Goal(A, 1) != other, True)


if __name__ == "__main__":
    unittest.main()
