"""[16]: changes by steps."""

import unittest

from anymethod.changes import change
from anymethod.errors import Full, NoName, NoRun, NoStep, NoSuch, OtherEffects, Twice
from anymethod.questions import effect
from anymethod.ratios import Ratio
from anymethod.runs import Run
from anymethod.series import Series
from tests.helping import A, NO_SEQUENCES, MethodCase, made

X = Run(A, 1)
Y = Run(2 * A, 1)
FAILS = ("drop", "none")


def raising(error):
    def action(series):
        raise error
    return action


class StepTest(MethodCase):
    def test_example(self):
        series = Series(("a",))
        run = Run(effect(("a",), "a"), 1)
        self.assertEqual(change(series, [("put", "x", run), ("attempt", [("put", "y", run), ("drop", "z")])]), 1)
        self.assertEqual(series.names(), ["x"])

    def test_no_step(self):
        for steps in ((), []):
            series = made(x=X)
            count = change(series, steps)
            self.assertIs(count.__class__, int)
            self.assertEqual((count, series), (0, made(x=X)))

    def test_put(self):
        series = made(x=X)
        self.assertEqual(change(series, [("put", "x", Y), ["put", "y", X]]), 0)
        self.assertEqual(series, made(x=Y, y=X))
        self.refused(NoName, ("Y",), change, series, [("put", "Y", X)])
        self.refused(NoRun, ("run",), change, series, [("put", "z", A)])
        self.refused(OtherEffects, (), change, series, [("put", "z", Run(effect(("b",), "b"), 1))])

    def test_drop(self):
        series = made(x=X, y=Y)
        self.assertEqual(change(series, (("drop", "x"),)), 0)
        self.assertEqual(series, made(y=Y))
        self.refused(NoSuch, ("x",), change, series, [("drop", "x")])
        self.refused(NoSuch, (None,), change, series, [("drop", None)])

    def test_join(self):
        series, other = made(x=X), made(y=Y)
        self.assertEqual(change(series, [("join", other)]), 0)
        self.assertEqual((series, other), (made(x=X, y=Y), made(y=Y)))
        self.assertEqual(change(series, [["join", series]]), 0)
        self.assertEqual(series, made(x=X, y=Y))
        self.refused(Twice, ("x",), change, series, [("join", made(x=Y))])
        self.refused(OtherEffects, (), change, series, [("join", Series(("b",)))])
        self.refused(Full, (9,), change, series, [("join", made(**{f"p{k}": X for k in range(7)}))])
        self.assertEqual(series, made(x=X, y=Y))

    def test_call(self):
        series = made(x=X)
        told = []

        def action(given):
            told.append(given)
            given["y"] = Y
            given.drop("x")
            return [NoStep(0)]

        self.assertEqual(change(series, [("call", action)]), 0)
        self.assertEqual(series, made(y=Y))
        self.assertEqual(len(told), 1)
        self.assertIs(told[0], series)

    def test_call_of_an_object(self):
        series = made()
        self.assertEqual(change(series, [("call", list_of_names), ("call", Series.names), ("call", Series.copy)]), 0)

    def test_call_raises(self):
        for error in (KeyError("x"), ZeroDivisionError(), ValueError(), NoSuch("z"), KeyboardInterrupt()):
            series = made(x=X)
            with self.assertRaises(error.__class__) as caught:
                change(series, [("put", "y", Y), ("call", raising(error)), ("put", "z", Y)])
            self.assertIs(caught.exception, error)
            self.assertEqual(series, made(x=X))

    def test_call_changes_by_steps(self):
        series = made(x=X)

        def action(given):
            self.assertEqual(change(given, [("attempt", [FAILS]), ("put", "y", Y)]), 1)

        self.assertEqual(change(series, [("call", action), ("attempt", [("call", action), FAILS])]), 1)
        self.assertEqual(series, made(x=X, y=Y))

    def test_call_tries_itself(self):
        series = made(x=X)

        def action(given):
            with given.trying():
                given["y"] = Y
                given.drop("none")

        self.assertEqual(change(series, [("put", "z", X), ("attempt", [("put", "w", X), ("call", action)])]), 1)
        self.assertEqual(series, made(x=X, z=X))

    def test_block(self):
        series = made(x=X)
        self.assertEqual(change(series, [("block", [("put", "y", Y), ["block", (("drop", "x"),)]])]), 0)
        self.assertEqual(series, made(y=Y))
        self.refused(NoSuch, ("none",), change, series, [("block", [("put", "z", Y), FAILS])])
        self.assertEqual(series, made(y=Y))
        self.assertEqual(change(series, [("block", ()), ("block", [])]), 0)

    def test_lists_and_tuples(self):
        series = made()
        steps = (["put", "x", X], ("block", (["put", "y", Y], ["attempt", (["drop", "x"], ["drop", "x"])])))
        self.assertEqual(change(series, steps), 1)
        self.assertEqual(series, made(x=X, y=Y))


def list_of_names(series):
    return series.names()


class AttemptTest(MethodCase):
    def test_ends_well(self):
        series = made()
        self.assertEqual(change(series, [("attempt", [("put", "x", X)]), ("attempt", [])]), 0)
        self.assertEqual(series, made(x=X))

    def test_ends_an_error_of_the_package(self):
        for step in (FAILS, ("put", "Y", X), ("put", "y", 1), ("join", made(x=Y)), ("call", raising(Full(9))),
                     ("block", [FAILS]), ("call", Series.drop.__get__(made(), Series)), ("strange",)):
            series = made(x=X)
            self.assertEqual(change(series, [("attempt", [("put", "y", Y), step, ("put", "z", X)]), ("put", "w", X)]), 1)
            self.assertEqual(series, made(x=X, w=X))

    def test_other_errors_go_on(self):
        for error in (KeyError(), ZeroDivisionError(), ValueError(), TypeError(), SystemExit()):
            series = made(x=X)
            with self.assertRaises(error.__class__) as caught:
                change(series, [("put", "v", X), ("attempt", [("put", "y", Y), ("call", raising(error))])])
            self.assertIs(caught.exception, error)
            self.assertEqual(series, made(x=X))

    def test_ends_by_no_step(self):
        series = made(x=X)
        self.assertEqual(change(series, [("attempt", [("put", "y", Y), "put"]), ("put", "z", Y)]), 1)
        self.assertEqual(series, made(x=X, z=Y))
        self.assertEqual(change(series, [("attempt", [("block", [("attempt",)])])]), 1)

    def test_attempts_in_attempts(self):
        series = made(x=X)
        steps = [("attempt", [("put", "y", Y), ("attempt", [("put", "z", Y), FAILS]), ("put", "w", Y)])]
        self.assertEqual(change(series, steps), 1)
        self.assertEqual(series, made(x=X, y=Y, w=Y))

    def test_attempts_inside_of_what_is_taken_back_count(self):
        series = made(x=X)
        inner = ("attempt", [FAILS])
        self.assertEqual(change(series, [("attempt", [inner, ("put", "y", Y), inner, FAILS])]), 3)
        self.assertEqual(series, made(x=X))
        self.assertEqual(change(series, [("attempt", [("block", [inner, inner]), FAILS]), inner]), 4)
        self.assertEqual(change(series, [("attempt", [("attempt", [("attempt", [FAILS]), FAILS]), FAILS])]), 3)

    def test_an_attempt_that_ended_well_does_not_count(self):
        series = made(x=X)
        self.assertEqual(change(series, [("attempt", [("attempt", [("put", "y", Y)]), FAILS])]), 1)
        self.assertEqual(series, made(x=X))

    def test_ten_deep(self):
        steps = [FAILS]
        for _ in range(10):
            steps = [("put", "y", Y), ("attempt", steps)]
        series = made(x=X)
        self.assertEqual(change(series, steps), 1)
        self.assertEqual(series, made(x=X, y=Y))

    def test_each_call_counts_for_itself(self):
        series = made()
        for _ in range(2):
            self.assertEqual(change(series, [("attempt", [FAILS])]), 1)


class NoStepTest(MethodCase):
    BAD = (
        (), [], ("put",), ("put", "y"), ("put", "y", Y, Y), ("drop",), ("drop", "x", "x"), ("join",), ("call",),
        ("join", Series(("a",)), Series(("a",))), ("call", list_of_names, 1), ("block",), ("block", [], []),
        ("attempt",), ("attempt", [], 1), ("Put", "y", Y), ("puts", "y", Y), ("", "y"), (b"drop", "x"), (None, "x"),
        (("drop",), "x"), (["drop"], "x"), ({}, "x"), (A, "x"), (Series(("a",)), "x"), (True, "x"), (0, "x"), "drop",
        "put", "dr", {"drop": "x", "put": "x"}, None, 1, True, b"ab", A, X, Ratio(1), range(2),
        ("join", None), ("join", [("x", X)]), ("join", X), ("join", A), ("join", {}), ("join", "x"),
        ("block", None), ("block", "drop"), ("block", {}), ("attempt", 1), ("attempt", ""), ("attempt", X),
        ("attempt", range(0)), ("block", Series(("a",))), ("blocks", []),
    )

    def test_what_is_no_step(self):
        for bad in self.BAD:
            series = made(x=X)
            self.refused(NoStep, (0,), change, series, [bad])
            self.refused(NoStep, (2,), change, series, (("put", "y", Y), ("drop", "x"), bad, FAILS, None))
            self.assertEqual(series, made(x=X))

    def test_the_place_in_its_own_sequence(self):
        series = made(x=X)
        self.refused(NoStep, (1,), change, series, [("put", "y", Y), ("put", "z", Y), ("block", [("drop", "x"), ()])])
        self.assertEqual(series, made(x=X))

    def test_only_when_it_comes_to_it(self):
        series = made(x=X)
        self.refused(NoSuch, ("none",), change, series, [FAILS, None])
        self.refused(NoStep, (0,), change, series, [None, FAILS])
        told = []
        self.refused(NoStep, (1,), change, series, [("call", told.append), None])
        self.assertEqual(len(told), 1)

    def test_no_sequence(self):
        for steps in (*NO_SEQUENCES, made(), X):
            self.refused(NoStep, (-1,), change, made(x=X), steps)

    def test_the_other_parts_are_not_looked_at_ahead(self):
        series = made(x=X)
        self.assertEqual(change(series, [("attempt", [("put", None, None)]), ("attempt", [("drop", [])])]), 2)
        self.refused(NoName, (None,), change, series, [("put", None, None)])

    def test_nothing_passed_is_changed(self):
        inner = [["put", "y", Y], ["drop", "none"]]
        steps = [["put", "z", X], ["attempt", inner]]
        change(made(x=X), steps)
        self.assertEqual(inner, [["put", "y", Y], ["drop", "none"]])
        self.assertEqual(steps, [["put", "z", X], ["attempt", inner]])


class TogetherTest(MethodCase):
    def test_inside_of_trying(self):
        series = made(x=X)
        with self.assertRaises(KeyError):
            with series.trying():
                change(series, [("put", "y", Y)])
                raise KeyError
        self.assertEqual(series, made(x=X))

    def test_every_holder_sees_it(self):
        series = made(x=X)
        other = series
        change(series, [("join", made(y=Y)), ("attempt", [("drop", "y"), FAILS])])
        self.assertIs(other, series)
        self.assertEqual(other, made(x=X, y=Y))


if __name__ == "__main__":
    unittest.main()
