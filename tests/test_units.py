"""[41] and [42]: other effects, other units, other orders, other slips, and pinned effects."""

import unittest

from anymethod.clashes import check_clash, clash_of, surely_wild
from anymethod.compared import cover, lacking, needless, trimmed
from anymethod.errors import Clash, Full, NoFactor, NoName, NoOrder, NoSuch, NoTable, OtherEffects
from anymethod.methods import fooled
from anymethod.questions import Question, effect, nothing
from anymethod.ratios import Ratio
from anymethod.readings import Estimator, stretches, world_of
from anymethod.runs import Run
from anymethod.series import Series
from anymethod.telling import bound_of, least_error, open_of
from anymethod.units import (
    pinned, rewritten, rewritten_question, scaled, scaled_question, slipped, swapped, swapped_question,
)
from tests.helping import A, AB, B, CANDIDATES, NO_NAMES, NO_NUMBERS, NO_SEQUENCES, MethodCase, hashable, made
from tests.second import EFFECTS, Maker, turned

UV = ("u", "v", "w")
U, V, W = [effect(UV, name) for name in UV]
XY = made(x=Run(A, 1), y=Run(2 * A - B.over(3), Ratio(1, 2)))
EMPTY = made()
TABLE = {"a": U + V, "b": 3 * W - V}
LEVELS = (0, 1, 2)


def errors(series, question):
    return [least_error(series, question, wild=wild) for wild in LEVELS]


def at_most(one, other):
    """Whether a least error is at most another one; None is greater than every number."""
    return other is None or (one is not None and one <= other)


def full():
    return made(**{"r" + str(at): Run(A, 1) for at in range(8)})


class RewrittenTest(MethodCase):
    def test_question(self):
        question = rewritten_question(Question(AB, (2, Ratio(-1, 3))), TABLE)
        self.assertEqual(question, Question(UV, (2, Ratio(7, 3), -1)))
        self.same_ratios(question.weights, [2, (7, 3), -1])
        self.assertEqual(rewritten_question(nothing(AB), TABLE), nothing(UV))
        self.assertEqual(rewritten_question(question=B, table=TABLE), 3 * W - V)

    def test_series(self):
        series = rewritten(XY, TABLE)
        self.assertIs(series.__class__, Series)
        self.assertEqual(series, made(UV, x=Run(U + V, 1), y=Run(Question(UV, (2, Ratio(7, 3), -1)), Ratio(1, 2))))
        self.assertEqual(rewritten(table=TABLE, series=EMPTY), Series(UV))

    def test_fewer_effects_and_more(self):
        one = effect(("t",), "t")
        self.assertEqual(rewritten_question(A + 5 * B, {"a": one, "b": 2 * one}), 11 * one)
        four = [effect(EFFECTS, name) for name in EFFECTS]
        self.assertEqual(rewritten_question(effect(("a",), "a") * 2, {"a": sum(four[1:], four[0])}),
                         Question(EFFECTS, (2, 2, 2, 2)))
        self.assertEqual(rewritten_question(A - B, {"a": one, "b": one}), nothing(("t",)))

    def test_further_keys_mean_nothing(self):
        table = {**TABLE, "c": A, "": None, None: 1, 5: U, ("a",): "b", "A": effect(("t",), "t")}
        self.assertEqual(rewritten(XY, table), rewritten(XY, TABLE))
        self.assertEqual(rewritten_question(A, table), U + V)

    def test_no_table(self):
        actions = (lambda table: rewritten(XY, table), lambda table: rewritten(EMPTY, table),
                   lambda table: rewritten_question(A, table), lambda table: rewritten_question(nothing(AB), table))
        for action in actions:
            for table, name in (({}, "a"), ({"a": U}, "b"), ({"b": U}, "a"), ({"A": U, "b": U}, "a"), ({"a": U, "c": U}, "b"),
                                ({"a": None, "b": None}, "a"), ({"b": 1, "c": U}, "a"), ({"a": A, "b": "b"}, "b")):
                self.refused(NoTable, (name,), action, table)
            for thing in (*CANDIDATES, Run(U, 1)):
                if not isinstance(thing, Question):
                    self.refused(NoTable, ("a",), action, {"a": thing, "b": U})
                    self.refused(NoTable, ("b",), action, {"a": U, "b": thing})
                    self.refused(NoTable, ("a",), action, {"b": thing})

    def test_the_order_of_the_effects(self):
        series = made(("b", "a"), x=Run(effect(("b", "a"), "a"), 1))
        self.refused(NoTable, ("b",), rewritten, series, {})
        self.refused(NoTable, ("a",), rewritten, series, {"b": U})

    def test_other_effects(self):
        for action in (lambda table: rewritten(XY, table), lambda table: rewritten(EMPTY, table),
                       lambda table: rewritten_question(A, table), lambda table: rewritten_question(nothing(AB), table)):
            for one, other in ((U, A), (A, effect(("b", "a"), "a")), (effect(("a",), "a"), A), (nothing(AB), nothing(UV))):
                self.refused(OtherEffects, (), action, {"a": one, "b": other})
        # A missing key comes first, wherever it stands; further keys have any effects.
        three = made(("a", "b", "c"))
        self.refused(NoTable, ("c",), rewritten, three, {"a": U, "b": A})
        self.refused(OtherEffects, (), rewritten, three, {"a": U, "b": U, "c": A})
        self.assertEqual(rewritten(EMPTY, {"a": U, "b": V, "c": A}).effects, UV)

    def test_image(self):
        maker = Maker(101)
        for series, question in maker.cases(40):
            effects = EFFECTS[:maker.chance.randint(1, 4)]
            table = {name: maker.question(effects) for name in series.effects}
            other, asked = rewritten(series, table), rewritten_question(question, table)
            for _ in range(5):
                world = [maker.number() for _ in effects]
                image = [table[name].at(world) for name in series.effects]
                self.assertEqual(asked.at(world), question.at(image))
                self.assertEqual(other.seen_by(world), series.seen_by(image))

    def test_least_errors_do_not_grow(self):
        maker = Maker(102, most=2)
        less = 0
        for series, question in maker.cases(60):
            effects = EFFECTS[:maker.chance.randint(1, 4)]
            table = {name: maker.question(effects) for name in series.effects}
            before = errors(series, question)
            after = errors(rewritten(series, table), rewritten_question(question, table))
            for one, other in zip(after, before):
                self.assertTrue(at_most(one, other))
                less += one != other
        self.assertGreater(less, 20)

    def test_equal_where_each_world_is_an_image(self):
        maker = Maker(103)
        for series, question in maker.cases(30, most_effects=3):
            # Each effect as a new one and any amount of those before it, beside one effect that is in all of them.
            effects = ("p", "q", "r", "s")
            table = {}
            for at, name in enumerate(series.effects):
                rest = [maker.number() if place < at or place == 3 else Ratio(0) for place in range(4)]
                table[name] = Question(effects, rest) + effect(effects, effects[at]) * maker.chance.choice((-2, 1, Ratio(1, 3)))
            after = errors(rewritten(series, table), rewritten_question(question, table))
            self.assertEqual(after, errors(series, question))

    def test_turned_back(self):
        there = {"a": U + 2 * V, "b": V, "c": W.over(-3)}
        abc = ("a", "b", "c")
        a, b, c = [effect(abc, name) for name in abc]
        back = {"u": a - 2 * b, "v": b, "w": -3 * c}
        maker = Maker(104)
        for count in range(20):
            series, question = maker.series(abc, count % 9), maker.question(abc)
            self.assertEqual(rewritten(rewritten(series, there), back), series)
            self.assertEqual(rewritten_question(rewritten_question(question, there), back), question)
            self.assertEqual(errors(rewritten(series, there), rewritten_question(question, there)), errors(series, question))

    def test_the_series_goes_its_own_way(self):
        series, table = XY.copy(), dict(TABLE)
        other = rewritten(series, table)
        self.assertEqual((series, table), (XY, TABLE))
        twin = other.copy()
        series.drop("x")
        table["a"] = V
        self.assertEqual(other, twin)
        other["x"] = Run(W, 0)
        other["z"] = Run(W, 0)
        self.assertEqual(series.names(), ["y"])


class ScaledTest(MethodCase):
    FACTORS = {"a": -2, "b": Ratio(1, 3)}

    def test_question(self):
        self.assertEqual(scaled_question(Question(AB, (5, 6)), self.FACTORS), Question(AB, (-10, 2)))
        self.same_ratios(scaled_question(A + B, self.FACTORS).weights, [-2, (1, 3)])
        self.assertEqual(scaled_question(factors=self.FACTORS, question=nothing(AB)), nothing(AB))
        self.assertEqual(scaled_question(A, {"a": 1, "b": 1}), A)

    def test_series(self):
        self.assertEqual(scaled(XY, self.FACTORS), made(x=Run(-2 * A, 1), y=Run(-4 * A - B.over(9), Ratio(1, 2))))
        self.assertIs(scaled(XY, self.FACTORS).__class__, Series)
        self.assertEqual(scaled(factors=self.FACTORS, series=EMPTY), EMPTY)

    def test_further_keys_mean_nothing(self):
        factors = {**self.FACTORS, "c": 0, "": None, None: True, 7: 7, ("a",): 1}
        self.assertEqual(scaled(XY, factors), scaled(XY, self.FACTORS))
        self.assertEqual(scaled_question(A, factors), -2 * A)

    def test_no_factor(self):
        turned_round = made(("b", "a"), x=Run(effect(("b", "a"), "a"), 1))
        for action in (lambda factors: scaled(XY, factors), lambda factors: scaled(EMPTY, factors),
                       lambda factors: scaled_question(A, factors), lambda factors: scaled_question(nothing(AB), factors)):
            for factors, name in (({}, "a"), ({"a": 1}, "b"), ({"b": 1}, "a"), ({"a": 0, "b": 0}, "a"), ({"a": 1, "b": 0}, "b"),
                                  ({"A": 1, "b": 1}, "a"), ({"b": None, "c": 3}, "a")):
                self.refused(NoFactor, (name,), action, factors)
            for value in (*NO_NUMBERS, 0, Ratio(0)):
                self.refused(NoFactor, ("a",), action, {"a": value, "b": 1})
                self.refused(NoFactor, ("b",), action, {"a": 1, "b": value})
                self.refused(NoFactor, ("a",), action, {"a": value, "b": value})
        self.refused(NoFactor, ("b",), scaled, turned_round, {"a": None})
        self.refused(NoFactor, ("b",), scaled, turned_round, {"a": 1, "b": True})

    def test_least_errors_stay(self):
        maker = Maker(105)
        for series, question in maker.cases(40):
            factors = {name: maker.chance.choice((-3, 1, 2, Ratio(-1, 4), Ratio(5, 3))) for name in series.effects}
            other, asked = scaled(series, factors), scaled_question(question, factors)
            self.assertEqual(errors(other, asked), errors(series, question))
            back = {name: Ratio(1).over(factors[name]) for name in factors}
            self.assertEqual(scaled(other, back), series)
            self.assertEqual(scaled_question(asked, back), question)

    def test_the_series_goes_its_own_way(self):
        series, factors = XY.copy(), dict(self.FACTORS)
        other = scaled(series, factors)
        self.assertEqual((series, factors), (XY, self.FACTORS))
        other.drop("x")
        factors["a"] = 7
        self.assertEqual(series, XY)
        series.drop("y")
        self.assertEqual(other.names(), ["y"])


class SlippedTest(MethodCase):
    def test_slips(self):
        for factor in (0, 1, 3, Ratio(2, 7), Ratio(0)):
            series = slipped(XY, factor)
            self.assertIs(series.__class__, Series)
            self.assertEqual(series, made(x=Run(XY["x"].question, factor), y=Run(XY["y"].question, factor * Ratio(1, 2))))
        self.assertEqual(slipped(factor=5, series=EMPTY), EMPTY)

    def test_no_factor(self):
        for factor in (*NO_NUMBERS, -1, Ratio(-1, 10 ** 60)):
            for series in (XY, EMPTY):
                self.refused(NoFactor, (None,), slipped, series, factor)

    def test_least_errors(self):
        for series, question in Maker(106).cases(30):
            before = errors(series, question)
            for factor in (0, Ratio(1, 3), 4):
                after = errors(slipped(series, factor), question)
                self.assertEqual(after, [None if error is None else factor * error for error in before])

    def test_the_series_goes_its_own_way(self):
        series = XY.copy()
        other = slipped(series, 1)
        self.assertEqual(other, series)
        other.drop("x")
        self.assertEqual(series, XY)
        series["z"] = Run(A, 0)
        self.assertEqual(other.names(), ["y"])


class SwappedTest(MethodCase):
    ABC = ("a", "b", "c")
    QUESTION = Question(("a", "b", "c"), (1, 2, 3))

    def test_question(self):
        self.assertEqual(swapped_question(self.QUESTION, ("c", "a", "b")), Question(("c", "a", "b"), (3, 1, 2)))
        self.assertEqual(swapped_question(order=["b", "a"], question=A), effect(("b", "a"), "a"))
        self.assertEqual(swapped_question(self.QUESTION, self.ABC), self.QUESTION)
        self.assertIs(swapped_question(A, ["b", "a"]).effects.__class__, tuple)

    def test_series(self):
        series = made(self.ABC, x=Run(self.QUESTION, 5), y=Run(nothing(self.ABC), 0))
        other = swapped(series, ["b", "c", "a"])
        self.assertEqual(other.effects, ("b", "c", "a"))
        self.assertEqual(other, made(("b", "c", "a"), x=Run(Question(("b", "c", "a"), (2, 3, 1)), 5),
                                     y=Run(nothing(("b", "c", "a")), 0)))
        self.assertEqual(swapped(order=("b", "a"), series=EMPTY), Series(("b", "a")))

    def test_no_order(self):
        orders = (*NO_SEQUENCES, *CANDIDATES, (), ("a",), ["b"], ("a", "a"), ("b", "b"), ("a", "b", "a"), ("a", "b", "b"),
                  ("a", "b", "c"), ("a", "c"), ("A", "b"), "ab", "ba", {"a": 1, "b": 2}, ("a", None), ["b", ["a"]], ("a", ("b",)),
                  (1, 2), (A, B))
        for order in orders:
            for action in (lambda: swapped(XY, order), lambda: swapped(EMPTY, order), lambda: swapped_question(A, order)):
                self.refused(NoOrder, (), action)
        self.refused(NoOrder, (), swapped_question, self.QUESTION, ("a", "b", "b"))
        self.refused(NoOrder, (), swapped_question, self.QUESTION, ("a", "b"))

    def test_tuple_and_list(self):
        self.assertEqual(swapped(XY, ["b", "a"]), swapped(XY, ("b", "a")))
        self.assertEqual(swapped_question(A, ["b", "a"]), swapped_question(A, ("b", "a")))

    def test_least_errors_stay(self):
        maker = Maker(107)
        for series, question in maker.cases(40):
            order = list(series.effects)
            maker.chance.shuffle(order)
            other, asked = swapped(series, order), swapped_question(question, order)
            self.assertEqual(errors(other, asked), errors(series, question))
            self.assertEqual(swapped(other, series.effects), series)
            self.assertEqual(swapped_question(asked, series.effects), question)

    def test_the_series_goes_its_own_way(self):
        series, order = XY.copy(), ["a", "b"]
        other = swapped(series, order)
        self.assertEqual(other, XY)
        order.append("c")
        other.drop("x")
        self.assertEqual(series, XY)
        self.assertEqual(other.effects, AB)
        series.drop("y")
        self.assertEqual(other.names(), ["y"])


class PinnedTest(MethodCase):
    def test_a_new_name(self):
        series = pinned(XY, "p", "b")
        self.assertIs(series.__class__, Series)
        self.assertEqual(series, made(x=XY["x"], y=XY["y"], p=Run(B, 0)))
        self.assertEqual(pinned(known="a", name="p", series=EMPTY), made(p=Run(A, 0)))

    def test_a_name_that_stands(self):
        self.assertEqual(pinned(XY, "x", "b"), made(x=Run(B, 0), y=XY["y"]))

    def test_a_full_series(self):
        self.assertEqual(pinned(full(), "r3", "b")["r3"], Run(B, 0))
        self.assertEqual(len(pinned(full(), "r3", "b")), 8)
        self.refused(Full, (9,), pinned, full(), "r8", "b")
        seven = full()
        seven.drop("r0")
        self.assertEqual(len(pinned(seven, "r8", "a")), 8)

    def test_no_name(self):
        for series in (XY, full()):
            for name in NO_NAMES:
                for known in ("a", "c", None):
                    with self.assertRaises(NoName) as caught:
                        pinned(series, name, known)
                    self.assertIs(caught.exception.name, name)

    def test_no_such(self):
        for series in (XY, EMPTY, full()):
            for known in (*NO_NAMES, "c", "x", "ab", "p", AB, A):
                for name in ("p", "r0"):
                    with self.assertRaises(NoSuch) as caught:
                        pinned(series, name, known)
                    self.assertIs(caught.exception.name, known)

    def test_another_weight_of_the_effect(self):
        maker = Maker(108)
        for series, question in maker.cases(40, most_runs=7):
            known = maker.chance.choice(series.effects)
            other = pinned(series, "p", known)
            for number in (1, Ratio(-7, 2), 100):
                changed = question + number * effect(series.effects, known)
                self.assertEqual(least_error(other, question), least_error(other, changed))

    def test_the_series_goes_its_own_way(self):
        series = XY.copy()
        other = pinned(series, "x", "a")
        self.assertEqual(series, XY)
        series.drop("y")
        self.assertEqual(other.names(), ["x", "y"])
        other.drop("x")
        self.assertEqual(series.names(), ["x"])


class TogetherTest(MethodCase):
    """What is told in other units and in another order is the same."""

    def changed(self, maker, series):
        """The series told in another way, and how its questions are told then."""
        factors = {name: maker.chance.choice((-3, 1, Ratio(-1, 4), Ratio(5, 3))) for name in series.effects}
        order = list(series.effects)
        maker.chance.shuffle(order)
        names = ("p", "q", "r", "s")[:len(order)]
        table = {name: effect(names, names[at]) * maker.chance.choice((1, -2)) for at, name in enumerate(order)}

        def told(question):
            return rewritten_question(swapped_question(scaled_question(question, factors), order), table)

        return rewritten(swapped(scaled(series, factors), order), table), told

    def test_readings_leave_the_same(self):
        maker = Maker(109)
        for series, question in maker.cases(25, most_runs=6):
            other, told = self.changed(maker, series)
            readings = maker.readings(series, wild=1, spread=2)
            for wild in LEVELS:
                self.assertEqual(stretches(other, told(question), readings, wild=wild),
                                 stretches(series, question, readings, wild=wild))
                clash = clash_of(series, readings, wild=wild)
                self.assertIs(clash is None, world_of(other, readings, wild=wild) is not None)
                if clash is not None:
                    self.assertIs(check_clash(other, readings, clash, wild=wild), True)
                    self.refused(Clash, (), lambda: surely_wild(other, readings, wild=wild))
                else:
                    self.assertEqual(surely_wild(other, readings, wild=wild), surely_wild(series, readings, wild=wild))

    def test_comparisons_stay(self):
        maker = Maker(110, most=2)
        for one, _ in maker.cases(25, most_effects=3, most_runs=5):
            two = maker.series(one.effects, 4)
            joined = made(one.effects, **{"a" + name: one[name] for name in one.names()[:4]})
            both, told = self.changed(maker, made(one.effects, **{"b" + name: two[name] for name in two.names()}) | joined)
            first = made(both.effects, **{name: both[name] for name in both.names() if name[0] == "a"})
            second = made(both.effects, **{name: both[name] for name in both.names() if name[0] == "b"})
            old = made(one.effects, **{"b" + name: two[name] for name in two.names()})
            self.assertEqual(lacking(first, second), lacking(joined, old))
            self.assertEqual(lacking(second, first), lacking(old, joined))
            self.assertEqual(needless(first), needless(joined))
            self.assertEqual(trimmed(first).names(), trimmed(joined).names())
            self.assertIs(cover(first, second) is None, cover(joined, old) is None)

    def test_methods_are_fooled_as_far(self):
        maker = Maker(111)
        for series, question in maker.cases(20, most_runs=6):
            other, told = self.changed(maker, series)
            for wild in LEVELS:
                error = least_error(series, question, wild=wild)
                self.assertEqual(open_of(other, told(question), wild=wild).error, error)
                readings, world = fooled(other, told(question), lambda readings: 0, wild=wild)
                self.assertGreaterEqual(abs(told(question).at(world)), 1 if error is None else error)

    def test_estimators(self):
        maker = Maker(112)
        for series, question in maker.cases(20, most_runs=6):
            other, told = self.changed(maker, series)
            if least_error(series, question) is not None:
                readings = maker.readings(series)
                self.assertEqual(Estimator(other, told(question))(readings), Estimator(series, question)(readings))


class SameResultTest(MethodCase):
    ACTIONS = (
        lambda series: rewritten(series, TABLE), lambda series: scaled(series, ScaledTest.FACTORS),
        lambda series: slipped(series, 2), lambda series: swapped(series, ["b", "a"]),
        lambda series: pinned(series, "p", "a"),
    )

    def test_the_same_call_again(self):
        for action in self.ACTIONS:
            one, other = action(XY), action(turned(XY))
            self.assertEqual(one, other)
            self.assertIsNot(one, action(XY))
            self.assertEqual(bound_of(one, one["x"].question), bound_of(other, one["x"].question))

    def test_keys_of_other_kinds(self):
        for key in hashable(NO_NAMES):
            self.assertEqual(rewritten_question(A, {**TABLE, key: key}), U + V)
            self.assertEqual(scaled_question(A, {"a": 1, "b": 1, key: key}), A)


if __name__ == "__main__":
    unittest.main()
