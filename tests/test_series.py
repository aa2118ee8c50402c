"""[2], [11] to [15]: series, their operators, and taking changes back."""

import unittest

from anymethod.errors import Full, MethodError, NoName, NoQuestion, NoRun, NoSuch, NoWorld, OtherEffects, Twice
from anymethod.questions import effect, nothing
from anymethod.ratios import Ratio
from anymethod.runs import Run
from anymethod.series import Series
from tests.helping import A, AB, B, NO_EFFECTS, NO_NAMES, NO_RUNS, NO_SEQUENCES, MethodCase, made

X = Run(A, 1)
Y = Run(A + B, 2)
Z = Run(B, Ratio(1, 2))
TURNED = Run(effect(("b", "a"), "a"), 1)
NAMES = ["p", "q", "r", "s", "t", "u", "v", "w"]


def put(series, name, run):
    series[name] = run


def full():
    return made(**{name: X for name in NAMES})


class CreatedTest(MethodCase):
    def test_empty(self):
        for effects in (AB, list(AB), ("a",), ["z9", "y", "x", "abcdefgh"]):
            series = Series(effects)
            self.assertEqual(series.effects, tuple(effects))
            self.assertIs(series.effects.__class__, tuple)
            self.assertEqual((len(series), series.names()), (0, []))
        self.assertEqual(Series(effects=AB), Series(AB))

    def test_effects_are_kept(self):
        effects = ["a", "b"]
        series = Series(effects)
        effects.append("c")
        self.assertEqual(series.effects, AB)

    def test_no_effects(self):
        for effects in (*NO_EFFECTS, made(), X.question):
            self.refused(NoQuestion, ("effects",), Series, effects)


class PutTest(MethodCase):
    def test_from_no_run_to_eight(self):
        series = Series(AB)
        for count, name in enumerate(reversed(NAMES), 1):
            series[name] = X
            self.assertEqual(len(series), count)
            self.assertEqual(series.names(), sorted(NAMES)[-count:])
        self.assertIs(series["p"], X)

    def test_the_ninth_name(self):
        series = full()
        self.refused(Full, (9,), put, series, "x", Y)
        self.assertEqual(series, full())

    def test_replaced_in_a_full_series(self):
        series = full()
        series["t"] = Y
        self.assertIs(series["t"], Y)
        self.assertEqual((len(series), series.names()), (8, NAMES))

    def test_room_again_after_drop(self):
        series = full()
        series.drop("q")
        series["x"] = Y
        self.assertEqual(series.names(), ["p", "r", "s", "t", "u", "v", "w", "x"])

    def test_no_name(self):
        series = made(x=X)
        for name in NO_NAMES:
            for run in (X, TURNED, None):
                with self.assertRaises(NoName) as caught:
                    series[name] = run
                self.assertIs(caught.exception.name, name)
        self.assertEqual(series, made(x=X))

    def test_no_run(self):
        series = full()
        for run in (*NO_RUNS, series):
            for name in ("p", "x"):
                self.refused(NoRun, ("run",), put, series, name, run)
        self.assertEqual(series, full())

    def test_other_effects(self):
        for run in (TURNED, Run(effect(("a",), "a"), 1), Run(effect(("a", "b", "c"), "a"), 1), Run(nothing(("a", "c")), 1)):
            for series in (Series(AB), full()):
                self.refused(OtherEffects, (), put, series, "x", run)
        self.refused(OtherEffects, (), put, full(), "p", TURNED)

    def test_what_is_wrong_twice(self):
        self.refused(NoName, ("X",), put, full(), "X", 1)
        self.refused(NoName, (8,), put, full(), 8, TURNED)
        self.refused(NoRun, ("run",), put, full(), "x", A)
        self.refused(OtherEffects, (), put, full(), "x", TURNED)

    def test_names_of_eight_characters(self):
        series = made(abcdefgh=X, a1234567=Y)
        self.assertEqual(series.names(), ["a1234567", "abcdefgh"])

    def test_ascending_by_characters(self):
        self.assertEqual(made(b=X, a10=X, a9=X, aa=X, a=X).names(), ["a", "a10", "a9", "aa", "b"])


class TakenTest(MethodCase):
    def test_item(self):
        series = made(y=Y, x=X)
        self.assertIs(series["x"], X)
        self.assertIs(series["y"], Y)

    def test_no_such(self):
        for series in (Series(AB), made(x=X, y=Y)):
            for name in ("z", "xx", "", "X", *NO_NAMES):
                for action in (series.__getitem__, series.drop):
                    with self.assertRaises(NoSuch) as caught:
                        action(name)
                    self.assertIs(caught.exception.name, name)
        self.assertEqual(made(x=X, y=Y).names(), ["x", "y"])

    def test_in(self):
        series = made(x=X)
        self.assertIs("x" in series, True)
        self.assertIs("x" not in series, False)
        for name in ("y", X, ("x",), ["x"], *NO_NAMES):
            self.assertIs(name in series, False)
            self.assertIs(name in Series(AB), False)

    def test_drop(self):
        series = made(x=X, y=Y)
        self.assertIsNone(series.drop("x"))
        self.assertEqual(series, made(y=Y))
        self.assertNotIn("x", series)
        self.refused(NoSuch, ("x",), series.drop, "x")
        self.assertIsNone(series.drop("y"))
        self.assertEqual(len(series), 0)

    def test_names_are_new(self):
        series = made(x=X)
        series.names().append("y")
        self.assertEqual(series.names(), ["x"])
        self.assertIs(series.names().__class__, list)

    def test_no_iteration(self):
        with self.assertRaises(TypeError):
            list(made(x=X))


class CopyTest(MethodCase):
    def test_goes_its_own_way(self):
        series = made(x=X)
        twin = series.copy()
        self.assertEqual(twin, series)
        self.assertIs(twin.__class__, Series)
        self.assertIsNot(twin, series)
        self.assertEqual(twin.effects, AB)
        twin["y"] = Y
        twin["x"] = Z
        self.assertEqual(series, made(x=X))
        series.drop("x")
        series["w"] = Y
        self.assertEqual(twin, made(x=Z, y=Y))
        self.assertEqual(series, made(w=Y))

    def test_the_same_runs(self):
        self.assertIs(made(x=X).copy()["x"], X)

    def test_a_join_into_a_copy(self):
        series = made(x=X)
        twin = series.copy()
        twin |= made(y=Y)
        self.assertEqual(series, made(x=X))
        self.assertEqual(twin, made(x=X, y=Y))


class SeenByTest(MethodCase):
    def test_names(self):
        series = made(z=Z, x=X, y=Y)
        self.assertEqual(series.seen_by((2, 1)), ["x", "y", "z"])
        self.assertEqual(series.seen_by([1, 1]), ["z"])
        self.assertEqual(series.seen_by((1, Ratio(1, 2))), [])
        self.assertEqual(series.seen_by((Ratio(-5, 2), 0)), ["x", "y"])
        self.assertEqual(Series(AB).seen_by((1, 1)), [])

    def test_no_world(self):
        for series in (Series(AB), made(x=X, y=Y)):
            for world in (*NO_SEQUENCES, (), (1,), [1, 2, 3], (1, True), (None, 1), [1, "2"], ("a", "b"), series):
                self.refused(NoWorld, (), series.seen_by, world)


class EqualityTest(MethodCase):
    def test_in_another_order(self):
        one = made(x=X, y=Y, z=Z)
        other = made(z=Run(effect(["a", "b"], "b"), Ratio(2, 4)), x=Run(A, Ratio(1)), y=Y)
        self.assertIs(one == other, True)
        self.assertIs(one != other, False)

    def test_unequal(self):
        series = made(x=X, y=Y)
        for other in (made(), made(x=X), made(x=X, y=X), made(x=Y, y=X), made(x=X, z=Y), made(x=X, y=Y, z=Z),
                      made(x=X, y=Run(A + B, 1))):
            self.assertIs(series == other, False)
            self.assertIs(series != other, True)

    def test_effects_count(self):
        self.assertIs(Series(AB) == Series(("b", "a")), False)
        self.assertIs(Series(AB) == Series(("a",)), False)
        self.assertIs(Series(AB) == Series(["a", "b"]), True)

    def test_unequal_to_anything_else(self):
        for series in (Series(AB), made(x=X)):
            for other in (None, 0, True, (), [], "", {}, {"x": X}, AB, X, A, Ratio(1), Full(9), Series):
                self.assertIs(series == other, False)
                self.assertIs(other == series, False)
                self.assertIs(series != other, True)

    def test_an_order_means_nothing(self):
        one, other = made(x=X, y=Y), made(y=Y, x=X)
        self.assertEqual(one.names(), other.names())
        self.assertEqual(one.seen_by((5, 5)), other.seen_by((5, 5)))
        self.assertEqual(one | made(z=Z), made(z=Z) | other)


class JoinedTest(MethodCase):
    def test_both(self):
        one, other = made(x=X), made(y=Y, z=Z)
        joined = one | other
        self.assertEqual(joined, made(x=X, y=Y, z=Z))
        self.assertIs(joined.__class__, Series)
        self.assertEqual((one, other), (made(x=X), made(y=Y, z=Z)))

    def test_gives_a_new_series(self):
        one = made(x=X)
        for joined in (one | one, one | Series(AB), Series(AB) | one, one | made(x=X)):
            self.assertEqual(joined, one)
            self.assertIsNot(joined, one)
            joined["y"] = Y
            joined["x"] = Z
            self.assertEqual(one, made(x=X))
        one["z"] = Z
        self.assertEqual(joined, made(x=Z, y=Y))

    def test_other_effects(self):
        for other in (Series(("b", "a")), Series(("a",)), Series(("a", "b", "c"))):
            for one in (made(), full()):
                self.refused(OtherEffects, (), lambda: one | other)
                self.refused(OtherEffects, (), one.__ior__, other)
                self.refused(OtherEffects, (), lambda: other | one)

    def test_other_effects_come_first(self):
        other = Series(("b", "a"))
        other["x"] = TURNED
        self.refused(OtherEffects, (), lambda: made(x=X) | other)

    def test_twice(self):
        one, other = made(w=X, x=X, y=Y, z=Z), made(z=X, y=Z, x=Run(A, 1), v=X)
        self.refused(Twice, ("y",), lambda: one | other)
        self.refused(Twice, ("y",), lambda: other | one)
        self.refused(Twice, ("y",), one.__ior__, other)
        self.assertEqual(one, made(w=X, x=X, y=Y, z=Z))
        self.assertEqual(other, made(z=X, y=Z, x=X, v=X))

    def test_twice_ahead_of_full(self):
        other = made(p=Y, x=X)
        self.refused(Twice, ("p",), lambda: full() | other)
        self.refused(Twice, ("p",), full().__ior__, other)

    def test_full(self):
        one = full()
        for other, number in ((made(x=X), 9), (made(x=X, p=X), 9), (made(x=X, y=Y, z=Z), 11)):
            self.refused(Full, (number,), lambda: one | other)
            self.refused(Full, (number,), lambda: other | one)
            self.refused(Full, (number,), one.__ior__, other)
            self.assertEqual(one, full())
        self.assertEqual(one | one, one)
        self.assertEqual(one | made(p=X, w=X), one)
        self.assertEqual(len(made(p=X, q=X, r=X, s=X) | made(t=X, u=X, v=X, w=X)), 8)
        most = full()
        many = made(**{name + "2": X for name in NAMES})
        self.refused(Full, (16,), lambda: most | many)

    def test_in_place(self):
        one = made(x=X)
        holder = [one]
        same = one
        one |= made(y=Y)
        self.assertIs(one, same)
        self.assertIs(holder[0], one)
        self.assertEqual(holder[0], made(x=X, y=Y))
        other = made(z=Z)
        one |= other
        self.assertEqual(other, made(z=Z))
        one["w"] = X
        self.assertEqual(other, made(z=Z))
        other["v"] = X
        self.assertEqual(same, made(w=X, x=X, y=Y, z=Z))

    def test_with_itself(self):
        one = full()
        same = one
        one |= one
        self.assertIs(one, same)
        self.assertEqual(one, full())

    def test_in_place_inside_of_a_list(self):
        rows = [made(x=X)]
        first = rows[0]
        rows[0] |= made(y=Y)
        self.assertIs(rows[0], first)
        self.assertEqual(first, made(x=X, y=Y))


class TryingTest(MethodCase):
    def test_ends_well(self):
        series = made(x=X)
        with series.trying():
            series["y"] = Y
            series.drop("x")
        self.assertEqual(series, made(y=Y))

    def test_any_error(self):
        for error in (KeyError("x"), ZeroDivisionError(), NoSuch("x"), MethodError(), KeyboardInterrupt(), SystemExit()):
            series = made(x=X)
            with self.assertRaises(error.__class__) as caught:
                with series.trying():
                    series["x"] = Y
                    series["y"] = Y
                    raise error
            self.assertIs(caught.exception, error)
            self.assertEqual(series, made(x=X))
            self.assertIs(series["x"], X)

    def test_error_of_the_series(self):
        series = full()
        with self.assertRaises(Full):
            with series.trying():
                series["p"] = Y
                series["z"] = Y
        self.assertEqual(series, full())

    def test_held(self):
        series = made(x=X)
        with series.trying() as held:
            self.assertIs(held, series)

    def test_what_was_there_when_the_block_was_entered(self):
        series = made(x=X)
        manager = series.trying()
        series["y"] = Y
        with self.assertRaises(KeyError):
            with manager:
                series.drop("x")
                raise KeyError
        self.assertEqual(series, made(x=X, y=Y))

    def test_managers_are_new(self):
        series = made(x=X)
        self.assertIsNot(series.trying(), series.trying())

    def test_inner_block_taken_back_by_the_outer_one(self):
        series = made(x=X)
        with self.assertRaises(ZeroDivisionError):
            with series.trying():
                series["y"] = Y
                with series.trying():
                    series["z"] = Z
                    series.drop("x")
                self.assertEqual(series, made(y=Y, z=Z))
                raise ZeroDivisionError
        self.assertEqual(series, made(x=X))

    def test_inner_block_alone(self):
        series = made(x=X)
        with series.trying():
            series["y"] = Y
            try:
                with series.trying():
                    series.drop("y")
                    series["z"] = Z
                    raise NoSuch("q")
            except NoSuch:
                self.assertEqual(series, made(x=X, y=Y))
            series["w"] = X
        self.assertEqual(series, made(w=X, x=X, y=Y))

    def test_both_blocks(self):
        series = made(x=X)
        with self.assertRaises(NoSuch):
            with series.trying():
                series["y"] = Y
                with series.trying():
                    series["z"] = Z
                    series["q"]
        self.assertEqual(series, made(x=X))

    def test_whoever_changed_it(self):
        series = made(x=X)
        other = series
        with self.assertRaises(NoWorld):
            with series.trying() as held:
                held["y"] = Y
                other |= made(z=Z)
                other.seen_by(())
        self.assertEqual(series, made(x=X))
        self.assertIs(other, series)

    def test_a_name_that_was_given_to_another_series(self):
        first = series = made(x=X)
        with self.assertRaises(KeyError):
            with series.trying():
                first["y"] = Y
                series = made(z=Z)
                raise KeyError
        self.assertEqual(first, made(x=X))
        self.assertEqual(series, made(z=Z))

    def test_two_series(self):
        one, other = made(x=X), made(y=Y)
        with self.assertRaises(KeyError):
            with one.trying(), other.trying():
                one |= other
                other |= one
                raise KeyError
        self.assertEqual((one, other), (made(x=X), made(y=Y)))

    def test_copies_of_the_block_stay(self):
        series = made(x=X)
        with self.assertRaises(KeyError):
            with series.trying():
                series["y"] = Y
                twin = series.copy()
                raise KeyError
        self.assertEqual(twin, made(x=X, y=Y))


if __name__ == "__main__":
    unittest.main()
