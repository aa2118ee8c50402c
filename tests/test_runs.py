"""[2] and [10]: runs and what they see."""

import unittest

from anymethod.errors import NoRun, NoWorld
from anymethod.questions import Question, nothing
from anymethod.ratios import Ratio
from anymethod.runs import Run
from tests.helping import NO_NUMBERS, NO_SEQUENCES, MethodCase

AB = ("a", "b")
HALF = Ratio(1, 2)
Q = Question(AB, (2, Ratio(-1, 3)))


class CreatedTest(MethodCase):
    def test_fields(self):
        for slip, top, bottom in ((1, 1, 1), (0, 0, 1), (Ratio(0), 0, 1), (Ratio(2, 6), 1, 3), (10 ** 999, 10 ** 999, 1)):
            run = Run(Q, slip)
            self.assertIs(run.question, Q)
            self.same_ratio(run.slip, top, bottom)

    def test_by_keyword(self):
        self.assertEqual(Run(question=Q, slip=HALF), Run(Q, HALF))

    def test_question(self):
        for thing in (None, True, 1, Ratio(1), "a", b"a", AB, (AB, (1, 2)), ["a"], {"a": 1}, Run(Q, 1), Question, len):
            self.refused(NoRun, ("question",), Run, thing, 1)
            self.refused(NoRun, ("question",), Run, thing, -1)
            self.refused(NoRun, ("question",), Run, thing, None)

    def test_slip(self):
        for slip in (-1, Ratio(-1, 10 ** 30), -10 ** 999, *NO_NUMBERS):
            self.refused(NoRun, ("slip",), Run, Q, slip)

    def test_equality(self):
        run = Run(Q, HALF)
        same = Run(Question(list(AB), [2, Ratio(1, -3)]), Ratio(2, 4))
        self.assertIs(run == same, True)
        self.assertIs(run != same, False)
        for other in (Run(Q, 1), Run(-Q, HALF), Run(Question(("b", "a"), (Ratio(-1, 3), 2)), HALF), Run(nothing(AB), HALF),
                      Run(Q, 0)):
            self.assertIs(run == other, False)
            self.assertIs(run != other, True)

    def test_unequal_to_anything_else(self):
        run = Run(Q, HALF)
        for other in (None, True, 1, HALF, Q, (Q, HALF), [Q, HALF], "", {}, NoWorld(), Run):
            self.assertIs(run == other, False)
            self.assertIs(other == run, False)
            self.assertIs(run != other, True)


class SeesTest(MethodCase):
    def test_greater_than_the_slip(self):
        run = Run(Q, HALF)
        self.assertIs(run.sees((1, 0)), True)
        self.assertIs(run.sees((-1, 0)), True)
        self.assertIs(run.sees((0, 0)), False)
        self.assertIs(run.sees([1, 6]), False)

    def test_exactly_the_slip(self):
        run = Run(Q, HALF)
        for sign in (1, -1):
            self.assertIs(run.sees((sign * Ratio(1, 4), 0)), False)
            self.assertIs(run.sees((0, sign * Ratio(3, 2))), False)
            self.assertIs(run.sees((sign * (Ratio(1, 4) + Ratio(1, 10 ** 40)), 0)), True)
            self.assertIs(run.sees((sign * (Ratio(1, 4) - Ratio(1, 10 ** 40)), 0)), False)

    def test_a_slip_of_zero(self):
        run = Run(Q, 0)
        self.assertIs(run.sees((1, 6)), False)
        self.assertIs(run.sees((0, 0)), False)
        self.assertIs(run.sees((1, 5)), True)
        self.assertIs(run.sees((-1, -5)), True)
        self.assertIs(run.sees((Ratio(1, 10 ** 3000), 0)), True)

    def test_a_question_of_zeros_sees_nothing(self):
        self.assertIs(Run(nothing(AB), 0).sees((10 ** 100, -1)), False)

    def test_what_is_no_world(self):
        for world in (*NO_SEQUENCES, (), [], (1,), (1, 2, 3), (1, True), (None, 1), (1, "2"), ["a", "b"]):
            for run in (Run(Q, 1), Run(nothing(AB), 0)):
                self.refused(NoWorld, (), run.sees, world)


if __name__ == "__main__":
    unittest.main()
