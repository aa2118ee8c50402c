"""[48] to [50]: budgets, noises, the least error with them and what shows it."""

import time
import unittest

from anymethod.budgets import Budget, Noise, NoiseBound, NoiseOpen, check_noise_bound, check_noise_open
from anymethod.errors import (
    Clash, NoBudget, NoMethod, NoReadings, NoSuch, NoWorld, OtherEffects,
)
from anymethod.methods import Combined, fooled
from anymethod.questions import Question, effect, nothing
from anymethod.ratios import Ratio
from anymethod.runs import Run
from anymethod.series import Series
from anymethod.telling import Bound, Open, bound_of, least_error
from tests.helping import A, AB, B, CANDIDATES, NO_NAMES, NO_NUMBERS, NO_SEQUENCES, MethodCase, hashable, made
from tests.second import (
    EFFECTS, Maker, fraction, is_let_with, second_least_error, second_lets, second_noise_cost, second_noise_error,
    second_price, turned, weights_of,
)

ONE = effect(("a",), "a")
SAME = made(("a",), p=Run(ONE, 1), q=Run(ONE, 1), r=Run(ONE, 1))
THREE = Budget(("p", "q", "r"), 1)
XYZ = made(x=Run(A, 1), y=Run(A + B, 2), z=Run(B, 5))
EMPTY = made()
SMALL = Ratio(1, 10 ** 40)
OTHERS = (effect(("b", "a"), "a"), effect(("a", "b", "c"), "a"), Question(("a", "c"), (0, 0)))


def noises(seed, count, most_effects=4, most_runs=8, most_budgets=3):
    """Noises of all sorts, each with its series and a question."""
    maker = Maker(seed, most=2)
    for series, question in maker.cases(count, most_effects, most_runs):
        budgets = []
        for _ in range(maker.chance.randint(0, most_budgets) if len(series) else 0):
            members = maker.chance.sample(series.names(), maker.chance.randint(1, len(series)))
            budgets.append(Budget(members, abs(maker.number())))
        offset = maker.chance.choice((0, 0, 1, Ratio(1, 3), 5))
        yield Noise(series, budgets=budgets, offset=offset), series, question


class BudgetTest(MethodCase):
    def test_fields(self):
        budget = Budget(["z", "a10", "a9", "b"], 2)
        self.assertEqual(budget.members, ("a10", "a9", "b", "z"))
        self.assertIs(budget.members.__class__, tuple)
        self.same_ratio(budget.most, 2)
        self.same_ratio(Budget(most=Ratio(2, 4), members=("x",)).most, 1, 2)
        self.same_ratio(Budget("a b c d e f g h".split(), 0).most, 0)
        self.assertEqual(set(vars(budget)), {"members", "most"})

    def test_later_changes_of_the_list(self):
        members = ["y", "x"]
        budget = Budget(members, 1)
        members.append("z")
        self.assertEqual(budget.members, ("x", "y"))
        self.assertEqual(members, ["y", "x", "z"])

    def test_no_members(self):
        lots = (*NO_SEQUENCES, (), [], ("x", "x"), ["x", "y", "x"], tuple("abcdefghi"), list("abcdefgha"), "x", "xy", {"x": 1},
                *[(name,) for name in NO_NAMES], *[["x", name] for name in NO_NAMES], (("x", "y"),), [["x"]])
        for members in lots:
            for most in (1, -1, None):
                self.refused(NoBudget, ("members",), Budget, members, most)

    def test_no_most(self):
        for most in (*NO_NUMBERS, -1, -SMALL):
            self.refused(NoBudget, ("most",), Budget, ("x",), most)

    def test_equality(self):
        self.assertIs(Budget(("x", "y"), 1) == Budget(["y", "x"], Ratio(2, 2)), True)
        self.assertIs(Budget(("x", "y"), 1) != Budget(["y", "x"], 1), False)
        for other in (Budget(("x",), 1), Budget(("x", "z"), 1), Budget(("x", "y"), 2), None, 0, (("x", "y"), 1), ("x", "y"), "",
                      {}, A, Run(A, 1), Ratio(1), NoiseBound(1, 1, 1), Budget):
            self.assertIs(Budget(("x", "y"), 1) == other, False)
            self.assertIs(other == Budget(("x", "y"), 1), False)
            self.assertIs(Budget(("x", "y"), 1) != other, True)


class NoiseTest(MethodCase):
    def test_fields(self):
        noise = Noise(XYZ)
        self.assertEqual((noise.effects, noise.budgets), (AB, ()))
        self.same_ratio(noise.offset, 0)
        budgets = [Budget(("x", "y"), 1), Budget(("z",), 0), Budget(("x", "y"), 1)]
        noise = Noise(offset=Ratio(1, 3), budgets=budgets, series=XYZ)
        self.assertEqual(noise.budgets, tuple(budgets))
        for kept, budget in zip(noise.budgets, budgets):
            self.assertIs(kept, budget)
        self.assertIs(noise.budgets.__class__, tuple)
        self.assertIs(noise.effects.__class__, tuple)
        self.same_ratio(noise.offset, 1, 3)
        self.same_ratio(Noise(XYZ, offset=2).offset, 2)
        self.assertEqual(Noise(EMPTY, budgets=[]).budgets, ())

    def test_by_name_only(self):
        with self.assertRaises(TypeError):
            Noise(XYZ, [])

    def test_no_budgets(self):
        good = Budget(("x",), 1)
        for budgets in (*NO_SEQUENCES, good, [good] * 4, (good,) * 9, (None,) * 4, "xyz"):
            for offset in (0, -1, None):
                self.refused(NoBudget, ("budgets",), lambda: Noise(XYZ, budgets=budgets, offset=offset))
                self.refused(NoBudget, ("budgets",), lambda: Noise(EMPTY, budgets=budgets, offset=offset))
        for thing in CANDIDATES:
            if not isinstance(thing, Budget):
                for budgets in ([thing], (good, thing), [Budget(("w",), 1), good, thing], [thing, good]):
                    self.refused(NoBudget, ("budgets",), lambda: Noise(XYZ, budgets=budgets, offset=-1))
        self.assertEqual(len(Noise(XYZ, budgets=[good] * 3).budgets), 3)

    def test_no_such(self):
        for budgets, name in (([Budget(("x", "w", "v"), 1)], "v"), ([Budget(("x",), 1), Budget(("zz", "aa", "y"), 1)], "aa"),
                              ([Budget(("w",), 1), Budget(("a",), 1)], "w"), ((Budget(("x", "xx"), 0),), "xx")):
            for offset in (0, -1, None):
                self.refused(NoSuch, (name,), lambda: Noise(XYZ, budgets=budgets, offset=offset))
        self.refused(NoSuch, ("x",), lambda: Noise(EMPTY, budgets=[Budget(("x",), 1)]))

    def test_no_offset(self):
        for offset in (*NO_NUMBERS, -1, -SMALL):
            self.refused(NoBudget, ("offset",), lambda: Noise(XYZ, offset=offset))
            self.refused(NoBudget, ("offset",), lambda: Noise(XYZ, budgets=[Budget(("x",), 1)], offset=offset))

    def test_later_changes(self):
        series, budgets = XYZ.copy(), [Budget(("x", "z"), 3)]
        noise = Noise(series, budgets=budgets, offset=1)
        before = (noise.least_error(B), noise.bound(B), noise.price(Combined({"x": 1})))
        series.drop("x")
        series["z"] = Run(B, 0)
        series["w"] = Run(A, 0)
        budgets.clear()
        self.assertEqual((noise.least_error(B), noise.bound(B), noise.price(Combined({"x": 1}))), before)
        self.assertIs(noise.lets({"x": 0, "y": 0, "z": 2}), True)
        self.assertEqual(noise.fooled(B, lambda readings: 0)[0], {"x": 0, "y": 0, "z": 0})

    def test_arguments_stay(self):
        series, budgets, errors = XYZ.copy(), [Budget(("x",), 1)], {"x": 1, "y": 0, "z": 0, "w": None}
        noise = Noise(series, budgets=budgets)
        noise.lets(errors)
        noise.fits([1, 2], errors)
        noise.bound(A)
        self.assertEqual((series, budgets, errors), (XYZ, [Budget(("x",), 1)], {"x": 1, "y": 0, "z": 0, "w": None}))


class LetsTest(MethodCase):
    def lets(self, noise, **errors):
        told = noise.lets(errors)
        self.assertIs(told.__class__, bool)
        world = tuple(range(len(noise.effects)))
        readings = {name: error + noise.series[name].question.at(world) for name, error in errors.items()}
        self.assertIs(noise.fits(world, readings), told)
        return told

    def test_example(self):
        noise = Noise(SAME, budgets=[THREE], offset=2)
        self.assertTrue(self.lets(noise, p=1, q=1, r=0))
        self.assertTrue(self.lets(noise, p=2, q=2, r=3))
        self.assertFalse(self.lets(noise, p=2, q=2, r=3 + SMALL))

    def test_slips(self):
        noise = Noise(XYZ)
        self.assertTrue(self.lets(noise, x=1, y=-2, z=5))
        for name, error in (("x", 1 + SMALL), ("y", -2 - SMALL), ("z", 6)):
            self.assertFalse(self.lets(noise, **{"x": 1, "y": -2, "z": 5, name: error}))

    def test_budgets(self):
        noise = Noise(XYZ, budgets=[Budget(("y", "z"), 3)])
        self.assertTrue(self.lets(noise, x=1, y=-1, z=2))
        self.assertTrue(self.lets(noise, x=-1, y=2, z=-1))
        self.assertFalse(self.lets(noise, x=0, y=-1, z=2 + SMALL))
        self.assertFalse(self.lets(noise, x=1 + SMALL, y=0, z=0))
        self.assertTrue(self.lets(Noise(XYZ, budgets=[Budget(("x", "y", "z"), 0)]), x=0, y=0, z=0))
        self.assertFalse(self.lets(Noise(XYZ, budgets=[Budget(("x", "y", "z"), 0)]), x=0, y=0, z=SMALL))

    def test_budgets_that_overlap(self):
        noise = Noise(XYZ, budgets=[Budget(("x", "y"), 2), Budget(("y", "z"), 3), Budget(("x",), Ratio(1, 2))])
        self.assertTrue(self.lets(noise, x=Ratio(1, 2), y=Ratio(3, 2), z=Ratio(-3, 2)))
        self.assertFalse(self.lets(noise, x=Ratio(1, 2), y=Ratio(3, 2) + SMALL, z=0))
        self.assertFalse(self.lets(noise, x=0, y=Ratio(3, 2), z=Ratio(3, 2) + SMALL))
        self.assertFalse(self.lets(noise, x=Ratio(1, 2) + SMALL, y=0, z=0))

    def test_offset(self):
        noise = Noise(XYZ, offset=3)
        self.assertTrue(self.lets(noise, x=4, y=5, z=8))
        self.assertTrue(self.lets(noise, x=-4, y=-1, z=2))
        self.assertFalse(self.lets(noise, x=4 + SMALL, y=5, z=8))
        self.assertFalse(self.lets(noise, x=-4, y=-1 + SMALL, z=2))
        self.assertFalse(self.lets(noise, x=4, y=0, z=8))

    def test_offset_with_budgets(self):
        noise = Noise(SAME, budgets=[Budget(("p", "q"), 1)], offset=2)
        # The run "r" is in no budget: its own slip counts.
        self.assertTrue(self.lets(noise, p=2, q=3, r=1))
        self.assertTrue(self.lets(noise, p=2, q=3, r=3))
        self.assertFalse(self.lets(noise, p=2, q=3 + SMALL, r=3))
        self.assertFalse(self.lets(noise, p=2, q=3, r=1 - SMALL))
        self.assertFalse(self.lets(noise, p=3, q=3, r=3))
        self.assertTrue(self.lets(noise, p=Ratio(5, 2), q=Ratio(5, 2), r=Ratio(5, 2)))
        self.assertFalse(self.lets(noise, p=Ratio(5, 2), q=Ratio(5, 2) + SMALL, r=2))

    def test_no_runs(self):
        self.assertTrue(self.lets(Noise(EMPTY)))
        self.assertTrue(self.lets(Noise(EMPTY, offset=2)))

    def test_further_keys(self):
        errors = {"x": 1, "y": 0, "z": 0, "w": 99, None: None, 5: "a", "": []}
        self.assertIs(Noise(XYZ).lets(errors), True)
        self.assertIs(Noise(XYZ).fits((0, 0), errors), True)

    def test_a_second_way(self):
        maker = Maker(131, most=2)
        seen = {True: 0, False: 0}
        for noise, series, _ in noises(132, 150, most_runs=6):
            for spread in (1, 2):
                shift = noise.offset * maker.chance.choice((-1, 0, 1, Ratio(1, 2)))
                errors = {name: shift + series[name].slip * Ratio(maker.chance.randint(-spread, spread), 2)
                          for name in series.names()}
                told = self.lets(noise, **errors)
                self.assertIs(told, second_lets(series, noise.budgets, noise.offset, errors))
                opposite = {name: -error for name, error in errors.items()}
                self.assertIs(self.lets(noise, **opposite), told)
                seen[told] += 1
        self.assertGreater(min(seen.values()), 60)

    def test_no_readings(self):
        noise = Noise(XYZ, budgets=[Budget(("x",), 1)], offset=1)
        for errors, name in (({}, "x"), ({"y": 1, "z": 1}, "x"), ({"x": 1, "z": None}, "y"), ({"x": 1, "y": 1, "Z": 1}, "z")):
            self.refused(NoReadings, (name,), noise.lets, errors)
            self.refused(NoReadings, (name,), noise.fits, (0, 0), errors)
        for value in NO_NUMBERS:
            self.refused(NoReadings, ("y",), noise.lets, {"x": 99, "y": value, "z": 1})
            self.refused(NoReadings, ("y",), noise.fits, (0, 0), {"x": 99, "y": value, "z": 1})
        for thing in CANDIDATES:
            if not isinstance(thing, dict):
                self.refused(NoReadings, ("x",), noise.lets, thing)
                self.refused(NoReadings, ("x",), noise.fits, (0, 0), thing)

    def test_no_world_comes_first(self):
        for noise in (Noise(XYZ), Noise(EMPTY)):
            for world in (*NO_SEQUENCES, (), (1,), [1, 2, 3], (1, True), (None, 1), [1, "2"]):
                self.refused(NoWorld, (), noise.fits, world, {})
                self.refused(NoWorld, (), noise.fits, world, {"x": 0, "y": 0, "z": 0})

    def test_worlds_of_both_kinds(self):
        for world in ([1, Ratio(1, 2)], (1, Ratio(1, 2))):
            self.assertIs(Noise(XYZ).fits(world, {"x": 2, "y": Ratio(3, 2), "z": Ratio(-9, 2)}), True)
            self.assertIs(Noise(XYZ).fits(world, {"x": 2 + SMALL, "y": Ratio(3, 2), "z": 0}), False)


class PriceTest(MethodCase):
    def price(self, noise, weights):
        price = noise.price(Combined(weights))
        self.assertIs(price.__class__, Ratio)
        return price

    def test_example(self):
        noise = Noise(SAME, budgets=[THREE], offset=2)
        self.same_ratio(self.price(noise, {"p": 1, "q": -1}), 1)
        self.same_ratio(self.price(noise, {"p": 1}), 3)
        self.same_ratio(self.price(noise, {"p": 1, "q": 1, "r": 1}), 7)
        self.same_ratio(self.price(Noise(SAME, budgets=[THREE]), {"p": Ratio(1, 2), "q": Ratio(1, 3)}), 1, 2)

    def test_slips_alone(self):
        noise = Noise(XYZ)
        self.same_ratio(self.price(noise, {"x": 2, "y": -3, "z": Ratio(1, 2)}), 21, 2)
        for given in ({}, {"x": 0}):
            self.same_ratio(self.price(noise, given), 0)
            self.same_ratio(self.price(Noise(EMPTY, offset=3), given), 0)

    def test_offset(self):
        noise = Noise(XYZ, offset=Ratio(1, 2))
        self.same_ratio(self.price(noise, {"x": 1, "y": 1}), 4)
        self.same_ratio(self.price(noise, {"x": 1, "y": -1}), 3)
        self.same_ratio(self.price(noise, {"x": -1, "y": -1}), 4)

    def test_a_budget_that_binds_none(self):
        noise = Noise(XYZ, budgets=[Budget(("x", "y"), 3)])
        self.same_ratio(self.price(noise, {"x": 1, "y": 1}), 3)
        self.same_ratio(self.price(Noise(XYZ, budgets=[Budget(("x", "y"), 2)]), {"x": 1, "y": 1}), 2)
        self.same_ratio(self.price(Noise(XYZ, budgets=[Budget(("x", "y"), 2)]), {"x": 1, "y": 3}), 6)
        self.same_ratio(self.price(Noise(XYZ, budgets=[Budget(("x", "y"), 0)]), {"x": 1, "y": 3, "z": 1}), 5)

    def test_no_such(self):
        noise = Noise(XYZ, budgets=[Budget(("x",), 1)])
        for weights, name in (({"w": 1}, "w"), ({"zz": 1, "v": 1, "x": 1}, "v"), ({"x": 1, "a": Ratio(1, 2), "b": 1}, "a")):
            self.refused(NoSuch, (name,), noise.price, Combined(weights))
        self.same_ratio(self.price(noise, {"x": 1, "w": 0}), 1)

    def test_a_second_way(self):
        maker = Maker(133)
        seen = 0
        for noise, series, _ in noises(134, 120):
            weights = {name: maker.number() for name in series.names() if maker.chance.randint(0, 3)}
            price = fraction(self.price(noise, weights))
            self.assertEqual(price, second_price(series, noise.budgets, noise.offset, weights))
            seen += price < second_noise_cost(series, noise.budgets, noise.offset, weights, (0,) * len(noise.budgets))
        self.assertGreater(seen, 30)

    def test_sums_and_negations(self):
        maker = Maker(135)
        for noise, series, _ in noises(136, 40):
            one, other = [{name: maker.number() for name in series.names()} for _ in range(2)]
            both = {name: one[name] + other[name] for name in one}
            self.assertLessEqual(self.price(noise, both), self.price(noise, one) + self.price(noise, other))
            self.assertEqual(self.price(noise, {name: -one[name] for name in one}), self.price(noise, one))
            self.assertEqual(self.price(noise, {name: 3 * one[name] for name in one}), 3 * self.price(noise, one))

    def test_no_errors_that_are_let_go_beyond_it(self):
        maker = Maker(137, most=2)
        for noise, series, _ in noises(138, 60, most_runs=5):
            method = Combined({name: maker.number() for name in series.names()})
            price = noise.price(method)
            for _ in range(6):
                errors = {name: noise.offset + series[name].slip * maker.chance.choice((-1, 0, 1)) for name in series.names()}
                if noise.lets(errors):
                    self.assertLessEqual(abs(method(errors)), price)


class LeastErrorTest(MethodCase):
    def test_examples(self):
        self.same_ratio(Noise(SAME).least_error(ONE), 1)
        self.same_ratio(Noise(SAME, budgets=[THREE]).least_error(ONE), 1, 3)
        self.same_ratio(Noise(SAME, budgets=[THREE], offset=2).least_error(ONE), 7, 3)

    def test_without_budgets_and_offset(self):
        for series, question in Maker(139).cases(60):
            error = least_error(series, question)
            self.assertEqual(Noise(series).least_error(question), error)
            self.assertEqual(error is None, second_least_error(series, question, 0) is None)

    def test_an_offset_costs_nothing_where_weights_add_up_to_0(self):
        for offset in (0, 1, 10 ** 50):
            self.same_ratio(Noise(XYZ, offset=offset).least_error(B), 3)
        self.same_ratio(Noise(XYZ, offset=2).least_error(A), 3)
        self.same_ratio(Noise(made(x=Run(A, 1)), offset=2).least_error(2 * A), 6)

    def test_none(self):
        for noise in (Noise(EMPTY), Noise(EMPTY, offset=2), Noise(made(x=Run(B, 0)), budgets=[Budget(("x",), 0)], offset=1)):
            self.assertIsNone(noise.least_error(A))
            self.assertIsNone(noise.bound(A))
            self.same_ratio(noise.least_error(nothing(AB)), 0)

    def test_a_second_way(self):
        seen = {}
        for noise, series, question in [*noises(140, 60, most_effects=1, most_runs=5, most_budgets=2),
                                        *noises(141, 25, most_effects=2, most_runs=3, most_budgets=2)]:
            expected = second_noise_error(series, noise.budgets, noise.offset, question)
            error = noise.least_error(question)
            self.assertEqual(None if error is None else fraction(error), expected)
            kind = None if error is None else error == least_error(series, question)
            seen[kind] = seen.get(kind, 0) + 1
        self.assertGreater(min(seen[None], seen[True], seen[False]), 9)

    def test_the_least_price(self):
        maker = Maker(142, most=2)
        for noise, series, question in noises(143, 60):
            bound = bound_of(series, question)
            error = noise.least_error(question)
            self.assertEqual(error is None, bound is None)
            if bound is not None:
                self.assertLessEqual(error, noise.price(Combined(bound.weights[0])))
                self.assertEqual(error, noise.price(Combined(noise.bound(question).weights)))
            weights = {name: maker.number() for name in series.names()}
            asked = nothing(series.effects)
            for name in weights:
                asked += weights[name] * series[name].question
            self.assertLessEqual(noise.least_error(asked), noise.price(Combined(weights)))

    def test_facts(self):
        for noise, series, question in noises(144, 40):
            error = noise.least_error(question)
            for number in (0, -1, Ratio(5, 2)):
                expected = 0 if number == 0 else None if error is None else abs(number) * error
                self.assertEqual(noise.least_error(number * question), expected)
            if error is not None:
                self.assertLessEqual(error, Noise(series, offset=noise.offset).least_error(question))
                self.assertLessEqual(Noise(series, budgets=noise.budgets).least_error(question), error)

    def test_the_same_call_again(self):
        for noise, series, question in noises(145, 20):
            other = Noise(turned(series), budgets=list(noise.budgets), offset=noise.offset)
            for action in (lambda one: one.least_error(question), lambda one: one.bound(question),
                           lambda one: one.opened(question), lambda one: one.fooled(question, lambda readings: 1)):
                self.assertEqual(action(noise), action(noise))
                self.assertEqual(action(noise), action(other))


class OtherEffectsTest(MethodCase):
    def test_all_doors(self):
        calls = []
        for noise in (Noise(XYZ), Noise(EMPTY), Noise(XYZ, budgets=[Budget(("x", "y"), 1)], offset=2)):
            for question in OTHERS:
                self.refused(OtherEffects, (), noise.least_error, question)
                self.refused(OtherEffects, (), noise.bound, question)
                self.refused(OtherEffects, (), noise.opened, question)
                self.refused(OtherEffects, (), noise.fooled, question, calls.append)
                for candidate in (None, NoiseBound(1, {}, ()), NoiseOpen(1, (0, 0), 0)):
                    self.refused(OtherEffects, (), check_noise_bound, noise, question, candidate)
                    self.refused(OtherEffects, (), check_noise_open, noise, question, candidate)
        self.assertEqual(calls, [])


class CertificateClassTest(MethodCase):
    THINGS = (None, True, 0, -5, Ratio(1, 2), "abc", b"ab", (), (1, [2]), range(3), A, XYZ, THREE, Clash(), len, Ratio)

    def test_anything_is_kept(self):
        for thing in self.THINGS:
            self.assertIs(NoiseBound(thing, None, None).error, thing)
            self.assertIs(NoiseBound(None, thing, None).weights, thing)
            self.assertIs(NoiseBound(None, None, thing).prices, thing)
            self.assertIs(NoiseOpen(thing, None, None).error, thing)
            self.assertIs(NoiseOpen(None, thing, None).world, thing)
            self.assertIs(NoiseOpen(None, None, thing).offset, thing)
        for thing in ([1], {"x": 1}):
            self.assertIs(NoiseBound(thing, None, None).error, thing)
            self.assertIs(NoiseOpen(thing, None, None).error, thing)
            self.assertIs(NoiseOpen(None, None, thing).offset, thing)
        self.assertIs(NoiseBound(True, 1, (True,)).prices[0], True)

    def test_lists_become_tuples_and_dicts_are_copied(self):
        weights, prices, world = {"x": 1, (1, "y"): [2]}, [1, [2]], [3, None]
        bound, found = NoiseBound(1, weights, prices), NoiseOpen(1, world, 0)
        weights["x"] = 5
        prices.append(1)
        world.clear()
        self.assertEqual(vars(bound), {"error": 1, "weights": {"x": 1, (1, "y"): [2]}, "prices": (1, [2])})
        self.assertEqual(vars(found), {"error": 1, "world": (3, None), "offset": 0})
        self.assertEqual(NoiseBound(1, [1, 2], {"x": 1}).weights, [1, 2])
        self.assertEqual(NoiseBound(1, [1, 2], {"x": 1}).prices, {"x": 1})
        self.assertEqual(NoiseOpen(1, {"x": 1}, 0).world, {"x": 1})

    def test_by_keyword(self):
        self.assertEqual(NoiseBound(prices=[1], weights={}, error=2), NoiseBound(2, {}, (1,)))
        self.assertEqual(NoiseOpen(offset=0, world=[1], error=2), NoiseOpen(2, (1,), 0))

    def test_equality(self):
        bound, found = NoiseBound(1, {"x": 2}, (3,)), NoiseOpen(1, (2,), 3)
        self.assertIs(bound == NoiseBound(Ratio(1), {"x": Ratio(2)}, [Ratio(3)]), True)
        self.assertIs(found == NoiseOpen(Ratio(1), [Ratio(2)], Ratio(3)), True)
        self.assertIs(bound != NoiseBound(1, {"x": 2}, (3,)), False)
        for other in (NoiseBound(2, {"x": 2}, (3,)), NoiseBound(1, {"y": 2}, (3,)), NoiseBound(1, {"x": 2}, (4,)),
                      NoiseBound(1, {"x": 2}, ()), NoiseBound(None, None, None), found, Bound(1, ({"x": 2},)), None, 1, (), THREE):
            self.assertIs(bound == other, False)
            self.assertIs(other == bound, False)
            self.assertIs(bound != other, True)
        for other in (NoiseOpen(2, (2,), 3), NoiseOpen(1, (3,), 3), NoiseOpen(1, (2,), 4), NoiseOpen(None, (2,), 3), bound,
                      Open(1, (2,)), None, 1, (), THREE):
            self.assertIs(found == other, False)
            self.assertIs(other == found, False)
            self.assertIs(found != other, True)


class CheckCase(MethodCase):
    def bounds(self, noise, question, *candidate):
        told = check_noise_bound(noise, question, NoiseBound(*candidate) if len(candidate) == 3 else candidate[0])
        self.assertIs(told.__class__, bool)
        return told

    def opens(self, noise, question, *candidate):
        told = check_noise_open(noise, question, NoiseOpen(*candidate) if len(candidate) == 3 else candidate[0])
        self.assertIs(told.__class__, bool)
        return told


class BoundTest(CheckCase):
    NOISE = Noise(XYZ, budgets=[Budget(("x", "y"), 2), Budget(("y", "z"), 6)], offset=1)
    WEIGHTS = {"x": 1, "y": 1}

    def holds(self, noise, series, question):
        """The bound, looked at in a second way."""
        bound = noise.bound(question)
        if bound is None:
            return None
        self.assertIs(bound.__class__, NoiseBound)
        self.assertIs(bound.error.__class__, Ratio)
        self.assertIs(bound.weights.__class__, dict)
        for value in bound.weights.values():
            self.assertIs(value.__class__, Ratio)
            self.assertNotEqual(value, 0)
        sums = [0] * len(series.effects)
        for name, value in bound.weights.items():
            sums = [one + fraction(value) * two for one, two in zip(sums, weights_of(series[name].question))]
        self.assertEqual(tuple(sums), weights_of(question))
        self.assertIs(bound.prices.__class__, tuple)
        self.assertEqual([price.__class__ for price in bound.prices], [Ratio] * len(noise.budgets))
        self.assertTrue(all(price >= 0 for price in bound.prices))
        total = second_noise_cost(series, noise.budgets, noise.offset, bound.weights, bound.prices)
        self.assertEqual(total, fraction(bound.error))
        self.assertEqual(bound.error, noise.least_error(question))
        self.assertTrue(self.bounds(noise, question, bound))
        return bound

    def test_both_certificates(self):
        seen = {True: 0, False: 0}
        for noise, series, question in noises(146, 120):
            bound = self.holds(noise, series, question)
            found = OpenTest.holds(self, noise, series, question)
            self.assertEqual(found.error, None if bound is None else bound.error)
            seen[bound is None] += 1
        self.assertGreater(min(seen.values()), 25)

    def test_exactly_the_sum(self):
        # offset 1 * 2, "x" and "y" without budgets 1 + 2; with the first budget alone 2.
        for error, prices, told in ((5, (0, 0), True), (5 - SMALL, (0, 0), False), (4, (1, 0), True), (4 - SMALL, (1, 0), False),
                                    (Ratio(9, 2), (Ratio(1, 2), 0), True), (9 - SMALL, (0, 1), False), (9, (0, 1), True), (6, (2, 0), True),
                                    (6 - SMALL, (2, 0), False), (10 ** 5000, (10 ** 4990, 5), True)):
            self.assertIs(self.bounds(self.NOISE, 2 * A + B, error, self.WEIGHTS, prices), told)

    def test_the_offset_counts_with_the_sum(self):
        self.assertTrue(self.bounds(self.NOISE, B, 2, {"x": -1, "y": 1}, (1, 0)))
        self.assertFalse(self.bounds(self.NOISE, B, 2 - SMALL, {"x": -1, "y": 1}, (1, 0)))
        self.assertTrue(self.bounds(self.NOISE, -2 * A - B, 4, {"x": -1, "y": -1}, [1, 0]))
        self.assertFalse(self.bounds(self.NOISE, -2 * A - B, 4 - SMALL, {"x": -1, "y": -1}, [1, 0]))

    def test_spoiled(self):
        question = 2 * A + B
        self.assertTrue(self.bounds(self.NOISE, question, 4, self.WEIGHTS, (1, 0)))
        self.assertTrue(self.bounds(self.NOISE, question, 4, {**self.WEIGHTS, "z": 0}, (Ratio(1), 0)))
        for error in (3, -4, Ratio(7, 2), *NO_NUMBERS):
            self.assertFalse(self.bounds(self.NOISE, question, error, self.WEIGHTS, (1, 0)))
        for weights in ({}, {"x": 1}, {"x": 1, "y": 2}, {"x": 1, "y": 1, "z": SMALL}, {"x": 1, "y": 1, "w": 0},
                        {"x": 1, "y": 1, "z": None}, {"x": True, "y": 1}, [("x", 1), ("y", 1)], (), None, "xy"):
            self.assertFalse(self.bounds(self.NOISE, question, 99, weights, (1, 0)))
        for key in hashable(NO_NAMES):
            self.assertFalse(self.bounds(self.NOISE, question, 99, {**self.WEIGHTS, key: 0}, (1, 0)))
        for prices in ((), (1,), (1, 0, 0), (1, -SMALL), (-1, 9), (1, None), (1, False), (1, "0"), "10", {0: 1, 1: 0}, None, 1,
                       ((1, 0),), range(2)):
            self.assertFalse(self.bounds(self.NOISE, question, 99, self.WEIGHTS, prices))
        spoiled = NoiseBound(4, self.WEIGHTS, (1, 0))
        spoiled.prices = [1, 0]
        self.assertFalse(self.bounds(self.NOISE, question, spoiled))

    def test_found_ones_spoiled(self):
        for noise, series, question in noises(147, 40):
            bound = noise.bound(question)
            if bound is None:
                continue
            self.assertFalse(self.bounds(noise, question, bound.error - SMALL, bound.weights, bound.prices))
            self.assertFalse(self.bounds(noise, question, None, bound.weights, bound.prices))
            self.assertFalse(self.bounds(noise, question, bound.error, bound.weights, (*bound.prices, 0)))
            for name in series.names():
                if series[name].question != nothing(series.effects):
                    weights = {**bound.weights, name: bound.weights.get(name, 0) + 1}
                    self.assertFalse(self.bounds(noise, question, 10 ** 9, weights, bound.prices))
            for place in range(len(noise.budgets)):
                prices = [-1 if at == place else price for at, price in enumerate(bound.prices)]
                self.assertFalse(self.bounds(noise, question, 10 ** 9, bound.weights, prices))

    def test_candidates_of_every_kind(self):
        plain = Noise(EMPTY)
        self.assertTrue(self.bounds(plain, nothing(AB), 0, {}, ()))
        for thing in (*CANDIDATES, NoiseOpen(4, self.WEIGHTS, (1, 0)), Bound(4, self.WEIGHTS)):
            self.assertFalse(self.bounds(self.NOISE, 2 * A + B, thing))
            self.assertFalse(self.bounds(self.NOISE, 2 * A + B, 99, thing, (1, 0)))
            if thing != (1, 2):
                self.assertFalse(self.bounds(self.NOISE, 2 * A + B, 99, self.WEIGHTS, thing))
            if thing != 1:
                self.assertFalse(self.bounds(self.NOISE, 2 * A + B, 99, {"x": 1, "y": thing}, (1, 0)))
            if thing not in (0, 1, 10 ** 40, Ratio(1, 2)):
                self.assertFalse(self.bounds(self.NOISE, 2 * A + B, thing, self.WEIGHTS, (1, 0)))
                self.assertFalse(self.bounds(self.NOISE, 2 * A + B, 10 ** 50, self.WEIGHTS, (1, thing)))

    def test_dicts_are_new(self):
        self.NOISE.bound(B).weights.clear()
        self.holds(self.NOISE, XYZ, B)


class OpenTest(CheckCase):
    NOISE = Noise(XYZ, budgets=[Budget(("x", "y"), 2)], offset=1)

    def holds(self, noise, series, question):
        """What is open, looked at in a second way."""
        found = noise.opened(question)
        self.assertIs(found.__class__, NoiseOpen)
        self.assertIs(found.world.__class__, tuple)
        for number in (*found.world, found.offset):
            self.assertIs(number.__class__, Ratio)
        answers = {name: series[name].question.at(found.world) for name in series.names()}
        if found.error is None:
            self.assertEqual(question.at(found.world), 1)
            self.assertEqual(found.offset, 0)
            self.assertTrue(all(number == 0 for number in answers.values()))
        else:
            self.assertIs(found.error.__class__, Ratio)
            self.assertEqual(question.at(found.world), found.error)
            self.assertLessEqual(abs(found.offset), noise.offset)
            self.assertTrue(is_let_with(series, noise.budgets, answers, fraction(found.offset)))
        self.assertEqual(found.error, noise.least_error(question))
        self.assertIs(check_noise_open(noise, question, found), True)
        return found

    def test_exactly(self):
        # In this world "x" answers 2, "y" 2 and "z" 0: with the offset 1 they are let, and with no other one.
        question = 2 * A + B
        self.assertTrue(self.opens(self.NOISE, question, 4, (2, 0), 1))
        self.assertTrue(self.opens(self.NOISE, question, Ratio(4), [Ratio(2), 0], Ratio(1)))
        for offset in (1 - SMALL, 1 + SMALL, 0, -1, 2):
            self.assertFalse(self.opens(self.NOISE, question, 4, (2, 0), offset))
        for error in (3, 4 + SMALL, -4, 0, *NO_NUMBERS):
            self.assertFalse(self.opens(self.NOISE, question, error, (2, 0), 1))
        for world in ((2, SMALL), (2 + SMALL, 0), (0, 4), (-2, 0), (2,), (2, 0, 0), (2, None), (True, 2), "20", None, 2, (),
                      {0: 2, 1: 0}, ((2, 0),)):
            self.assertFalse(self.opens(self.NOISE, question, 4, world, 1))
        for offset in NO_NUMBERS:
            self.assertFalse(self.opens(self.NOISE, question, 4, (2, 0), offset))

    def test_budgets_and_slips_count(self):
        self.assertTrue(self.opens(self.NOISE, A, 1, (1, -1), 0))
        self.assertTrue(self.opens(self.NOISE, A, 1, (1, 0), 0))
        self.assertFalse(self.opens(self.NOISE, A, 1, (1, Ratio(1, 10)), 0))
        self.assertTrue(self.opens(Noise(XYZ), A, 1, (1, 1), 0))
        self.assertFalse(self.opens(Noise(XYZ), A, 1, (1, 1 + SMALL), 0))
        self.assertFalse(self.opens(Noise(XYZ), A, 1, (1, -5 - SMALL), 0))

    def test_an_error_of_zero(self):
        self.assertTrue(self.opens(self.NOISE, A, 0, (0, 0), 0))
        self.assertTrue(self.opens(self.NOISE, A, 0, (0, 2), 0))
        self.assertTrue(self.opens(Noise(EMPTY), nothing(AB), 0, (10 ** 5000, -7), 0))
        self.assertFalse(self.opens(Noise(EMPTY), nothing(AB), -1, (1, 1), 0))
        self.assertFalse(self.opens(Noise(EMPTY), A, -1, (-1, 1), 0))

    def test_a_least_error_of_none(self):
        noise = Noise(made(x=Run(B, 5), y=Run(3 * B, 9)), budgets=[Budget(("x",), 0)], offset=2)
        for offset in (0, 2, -2, Ratio(1, 3)):
            self.assertTrue(self.opens(noise, A, None, (1, 0), offset))
        for offset in (2 + SMALL, -3, None, True, "0"):
            self.assertFalse(self.opens(noise, A, None, (1, 0), offset))
        for world in ((1, SMALL), (2, 0), (0, 0), (-1, 0), (1,), None):
            self.assertFalse(self.opens(noise, A, None, world, 0))
        self.assertFalse(self.opens(noise, B, None, (1, 0), 0))
        self.assertTrue(self.opens(noise, 2 * A + 7 * B, None, (Ratio(1, 2), 0), 0))
        self.assertTrue(self.opens(noise, A, 10 ** 90, (10 ** 90, 0), 0))

    def test_found_ones_spoiled(self):
        seen = set()
        for noise, series, question in noises(148, 60):
            found = noise.opened(question)
            seen.add(found.error is None)
            other = 1 if found.error is None else found.error + SMALL
            if found.error is not None or question != nothing(series.effects):
                self.assertIs(self.opens(noise, question, other, found.world, found.offset), found.error is None)
            self.assertFalse(self.opens(noise, question, -1, found.world, found.offset))
            self.assertFalse(self.opens(noise, question, found.error, (*found.world, 0), found.offset))
            self.assertFalse(self.opens(noise, question, found.error, found.world, noise.offset + SMALL))
            for place, weight in enumerate(question.weights):
                if weight != 0:
                    world = [number + (1 if at == place else 0) for at, number in enumerate(found.world)]
                    self.assertFalse(self.opens(noise, question, found.error, world, found.offset))
        self.assertEqual(seen, {True, False})

    def test_candidates_of_every_kind(self):
        question = 2 * A + B
        for thing in (*CANDIDATES, NoiseBound(4, (2, 0), 1), Open(4, (2, 0))):
            if not isinstance(thing, NoiseOpen):
                self.assertFalse(self.opens(self.NOISE, question, thing))
            if thing != (1, 2):
                self.assertFalse(self.opens(self.NOISE, question, 4, thing, 1))
            if thing != 0:
                self.assertFalse(self.opens(self.NOISE, question, 4, (2, thing), 1))
            if thing != 1:
                self.assertFalse(self.opens(self.NOISE, question, 4, (2, 0), thing))
            self.assertFalse(self.opens(self.NOISE, question, thing, (2, 0), 1))


class FooledTest(MethodCase):
    def holds(self, noise, series, question, number):
        calls = []

        def method(readings):
            calls.append((readings, dict(readings)))
            readings.clear()
            readings["strange"] = None
            return number

        result = noise.fooled(question, method)
        self.assertIs(result.__class__, tuple)
        readings, world = result
        self.assertEqual(len(calls), 1)
        self.assertIsNot(calls[0][0], readings)
        self.assertEqual(calls[0][1], readings)
        self.assertEqual(readings, {name: 0 for name in series.names()})
        self.assertIs(world.__class__, tuple)
        for value in (*calls[0][1].values(), *readings.values(), *world):
            self.assertIs(value.__class__, Ratio)
        self.assertIs(noise.fits(world, readings), True)
        error = noise.least_error(question)
        self.assertGreaterEqual(abs(question.at(world) - number), 1 if error is None else error)

    def test_numbers(self):
        great = 10 ** 4999
        for noise, series, question in noises(149, 40):
            for number in (0, 1, -1, Ratio(-1, 3), great, Ratio(-great, 7), Ratio(1, great)):
                self.holds(noise, series, question, number)

    def test_methods_of_the_package(self):
        noise = Noise(XYZ, budgets=[Budget(("x", "y"), 1)])
        for weights in ({"x": -1, "y": 1}, {}, {"z": 5}):
            readings, world = noise.fooled(B, Combined(weights))
            self.assertGreaterEqual(abs(B.at(world)), noise.least_error(B))
        self.refused(NoReadings, ("w",), noise.fooled, B, Combined({"w": 1}))

    def test_errors_of_the_method(self):
        for error in (KeyError("x"), ZeroDivisionError(), Clash(), NoMethod(), KeyboardInterrupt()):
            calls = []

            def method(readings):
                calls.append(1)
                raise error

            with self.assertRaises(error.__class__) as caught:
                Noise(XYZ).fooled(B, method)
            self.assertIs(caught.exception, error)
            self.assertEqual(calls, [1])

    def test_no_number(self):
        for value in NO_NUMBERS:
            calls = []

            def method(readings):
                calls.append(readings)
                return value

            self.refused(NoMethod, (), Noise(XYZ, offset=1).fooled, B, method)
            self.refused(NoMethod, (), Noise(EMPTY).fooled, B, method)
            self.assertEqual(len(calls), 2)

    def test_as_without_a_noise(self):
        for series, question in Maker(150).cases(15):
            _, one = Noise(series).fooled(question, lambda readings: 0)
            _, two = fooled(series, question, lambda readings: 0)
            self.assertEqual(abs(question.at(one)), abs(question.at(two)))


class SpeedTest(MethodCase):
    def test_eight_runs_over_four_effects(self):
        for most in (3, 99, 10 ** 20):
            maker = Maker(151, most=most)
            for count in (5, 8):
                series, question = maker.series(EFFECTS, 8), maker.question(EFFECTS)
                budgets = [Budget(maker.chance.sample(series.names(), count), abs(maker.number()) + 1) for _ in range(3)]
                noise = Noise(series, budgets=budgets, offset=abs(maker.number()) + 1)
                method = Combined({name: maker.number() for name in series.names()})
                errors = {name: maker.number() for name in series.names()}
                for action in (lambda: noise.least_error(question), lambda: noise.bound(question), lambda: noise.opened(question),
                               lambda: noise.price(method), lambda: noise.lets(errors),
                               lambda: noise.fooled(question, lambda readings: 0),
                               lambda: check_noise_bound(noise, question, noise.bound(question))):
                    start = time.perf_counter()
                    self.assertIsNotNone(action())
                    self.assertLess(time.perf_counter() - start, 1)

    def test_numbers_of_many_digits(self):
        great = Ratio(10 ** 999 + 7, 10 ** 998 + 9)
        series = Series(AB)
        for at, name in enumerate("pqr"):
            series[name] = Run(great * A + (at - great) * B, great)
        noise = Noise(series, budgets=[Budget(("p", "q", "r"), great + 1)], offset=Ratio(1, 10 ** 999))
        self.assertIsNotNone(BoundTest.holds(BoundTest(), noise, series, A))
        OpenTest.holds(OpenTest(), noise, series, A)


if __name__ == "__main__":
    unittest.main()
