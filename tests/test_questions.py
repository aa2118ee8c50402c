"""[2] and [7] to [9]: questions, worlds and the operators of questions."""

import operator
import unittest

from anymethod.errors import NoQuestion, NoRatio, NoSuch, NoWorld, OtherEffects
from anymethod.questions import Question, effect, nothing
from anymethod.ratios import Ratio
from anymethod.runs import Run
from tests.helping import NO_EFFECTS, NO_NUMBERS, NO_SEQUENCES, MethodCase

AB = ("a", "b")
HALF = Ratio(1, 2)
# What is no sequence of two numbers.
NO_PAIRS = (*NO_SEQUENCES, (), [], (1,), [1], (1, 2, 3), [HALF] * 3, (1, True), (False, 1), (1, None), (None, 1),
            (1, "2"), ("1", "2"), ("ab", 1), [[1, 2]], [[1], [2]], ((1, 2), 1), (1, b"2"), (1, {}),
            (1, Question(("a",), (1,))))


class CreatedTest(MethodCase):
    def test_fields(self):
        question = Question(["a", "b"], [2, Ratio(-2, 6)])
        self.assertEqual(question.effects, AB)
        self.assertIs(question.effects.__class__, tuple)
        self.same_ratios(question.weights, (2, (-1, 3)))

    def test_by_keyword(self):
        self.assertEqual(Question(effects=AB, weights=(1, 2)), Question(AB, (1, 2)))

    def test_all_numbers_of_effects(self):
        for effects in (("a",), AB, ("a", "b", "c"), ("a", "b", "c", "d")):
            question = Question(effects, [0] * len(effects))
            self.assertEqual(question.effects, effects)
            self.same_ratios(question.weights, [0] * len(effects))

    def test_names(self):
        effects = ("z", "a0", "abcdefgh", "x9999999")
        self.assertEqual(Question(effects, (1, 2, 3, 4)).effects, effects)

    def test_effects(self):
        for effects in NO_EFFECTS:
            self.refused(NoQuestion, ("effects",), Question, effects, (1,))
            self.refused(NoQuestion, ("effects",), Question, effects, "wrong")

    def test_weights(self):
        for weights in NO_PAIRS:
            self.refused(NoQuestion, ("weights",), Question, AB, weights)

    def test_each_place_of_a_weight(self):
        for wrong in NO_NUMBERS:
            for place in range(4):
                weights = [1, HALF, 0, -1]
                weights[place] = wrong
                self.refused(NoQuestion, ("weights",), Question, ("a", "b", "c", "d"), weights)

    def test_weights_with_many_digits(self):
        great = 10 ** 999
        self.same_ratios(Question(AB, (great, Ratio(-1, great))).weights, (great, (-1, great)))

    def test_later_changes_have_no_effect(self):
        effects, weights = ["a", "b"], [1, HALF]
        question = Question(effects, weights)
        self.assertEqual((effects, weights), (["a", "b"], [1, HALF]))
        self.assertIs(weights[0].__class__, int)
        effects[0] = "c"
        effects.append("d")
        weights[0] = 7
        weights.clear()
        self.assertEqual(question.effects, AB)
        self.same_ratios(question.weights, (1, (1, 2)))
        self.same_ratio(question.at((2, 2)), 3)


class AnswerTest(MethodCase):
    def test_answers(self):
        question = Question(AB, (2, Ratio(-1, 3)))
        self.same_ratio(question.at((1, 6)), 0)
        self.same_ratio(question.at([Ratio(1, 4), Ratio(1, 2)]), 1, 3)
        self.same_ratio(question.at((0, 0)), 0)
        self.same_ratio(question.at((-1, HALF)), -13, 6)
        self.same_ratio(Question(("a",), (3,)).at([5]), 15)
        self.same_ratio(Question(("a", "b", "c", "d"), (1, 10, 100, 1000)).at((1, 2, 3, 4)), 4321)

    def test_worlds_have_any_number_of_digits(self):
        great = 10 ** 3000
        self.same_ratio(Question(AB, (1, -1)).at((great, Ratio(1, great))), great ** 2 - 1, great)

    def test_what_is_no_world(self):
        question = Question(AB, (2, Ratio(-1, 3)))
        for world in NO_PAIRS:
            self.refused(NoWorld, (), question.at, world)

    def test_a_world_of_other_effects(self):
        self.refused(NoWorld, (), nothing(("a",)).at, (1, 2))
        self.refused(NoWorld, (), nothing(("a", "b", "c")).at, (1, 2))

    def test_the_world_is_not_changed(self):
        world = [1, HALF]
        Question(AB, (2, 3)).at(world)
        self.assertEqual(world, [1, HALF])
        self.assertIs(world[0].__class__, int)


class OperatorTest(MethodCase):
    def same_question(self, question, weights, effects=AB):
        self.assertIs(question.__class__, Question)
        self.assertEqual(question.effects, effects)
        self.same_ratios(question.weights, weights)

    def test_sums_and_differences(self):
        one, other = Question(AB, (2, Ratio(-1, 3))), Question(["a", "b"], (HALF, 1))
        self.same_question(one + other, ((5, 2), (2, 3)))
        self.same_question(one - other, ((3, 2), (-4, 3)))
        self.same_question(other - one, ((-3, 2), (4, 3)))
        self.same_question(one - one, (0, 0))
        self.same_question(one, (2, (-1, 3)))
        self.same_question(other, ((1, 2), 1))

    def test_other_effects(self):
        question = Question(AB, (1, 2))
        for effects, weights in ((("b", "a"), (2, 1)), (("a",), (1,)), (("a", "b", "c"), (1, 2, 0)), (("a", "c"), (1, 2))):
            other = Question(effects, weights)
            for action in (operator.add, operator.sub, operator.iadd, operator.isub):
                self.refused(OtherEffects, (), action, question, other)
                self.refused(OtherEffects, (), action, other, question)

    def test_negation(self):
        self.same_question(-Question(AB, (2, Ratio(-1, 3))), (-2, (1, 3)))
        self.same_question(-nothing(AB), (0, 0))

    def test_multiples(self):
        question = Question(AB, (2, Ratio(-1, 3)))
        for number, weights in [
            (3, (6, -1)), (-1, (-2, (1, 3))), (0, (0, 0)), (HALF, (1, (-1, 6))), (Ratio(-3, 2), (-3, (1, 2))),
        ]:
            self.same_question(question * number, weights)
            self.same_question(number * question, weights)

    def test_over(self):
        question = Question(AB, (2, Ratio(-1, 3)))
        self.same_question(question.over(2), (1, (-1, 6)))
        self.same_question(question.over(-3), ((-2, 3), (1, 9)))
        self.same_question(question.over(Ratio(-1, 3)), (-6, 1))
        self.same_question(question, (2, (-1, 3)))

    def test_over_zero(self):
        for question in (Question(AB, (2, 1)), nothing(AB)):
            for zero in (0, Ratio(0)):
                self.refused(NoRatio, ("zero",), question.over, zero)

    def test_in_place_gives_a_new_object(self):
        other = Question(AB, (0, 1))
        for action, right, weights in [
            (operator.iadd, other, (1, 3)), (operator.isub, other, (1, 1)), (operator.imul, 2, (2, 4)),
            (operator.imul, 1, (1, 2)), (operator.iadd, nothing(AB), (1, 2)),
        ]:
            old = Question(AB, (1, 2))
            new = action(old, right)
            self.assertIsNot(new, old)
            self.same_question(new, weights)
            self.same_question(old, (1, 2))
        self.same_question(other, (0, 1))

    def test_equality(self):
        question = Question(AB, (2, Ratio(-1, 3)))
        self.assertIs(question == Question(["a", "b"], [Ratio(4, 2), Ratio(1, -3)]), True)
        self.assertIs(question != Question(["a", "b"], [Ratio(4, 2), Ratio(1, -3)]), False)
        for other in (
            Question(("b", "a"), (2, Ratio(-1, 3))), Question(("b", "a"), (Ratio(-1, 3), 2)),
            Question(("a", "c"), (2, Ratio(-1, 3))), Question(AB, (2, Ratio(1, 3))), Question(AB, (1, Ratio(-1, 3))),
            Question(("a", "b", "c"), (2, Ratio(-1, 3), 0)),
        ):
            self.assertIs(question == other, False)
            self.assertIs(question != other, True)

    def test_unequal_to_anything_else(self):
        question = Question(("a",), (1,))
        for other in (None, True, 1, Ratio(1), "a", ("a",), (("a",), (1,)), {"a": 1}, [], Run(question, 1), NoWorld(),
                      Question):
            self.assertIs(question == other, False)
            self.assertIs(other == question, False)
            self.assertIs(question != other, True)


class EffectTest(MethodCase):
    def test_effect(self):
        for effects in (AB, ["a", "b"], ("a",), ("d", "c", "b", "a")):
            for place, name in enumerate(effects):
                question = effect(effects, name)
                self.assertIs(question.__class__, Question)
                self.assertEqual(question.effects, tuple(effects))
                self.same_ratios(question.weights, [int(other == place) for other in range(len(effects))])

    def test_effects_of_an_effect(self):
        for effects in NO_EFFECTS:
            self.refused(NoQuestion, ("effects",), effect, effects, "a")
            self.refused(NoQuestion, ("effects",), effect, effects, "z")

    def test_no_such_effect(self):
        for name in ("c", "", "A", "ab", " a", None, True, 0, 1, b"a", ["a"], ("a",), AB, {"a": 1}, Ratio(1),
                     effect(AB, "a")):
            self.refused(NoSuch, (name,), effect, AB, name)

    def test_nothing(self):
        for effects in (("a",), ["a", "b"], ("d", "c", "b", "a")):
            question = nothing(effects)
            self.assertIs(question.__class__, Question)
            self.assertEqual(question.effects, tuple(effects))
            self.same_ratios(question.weights, [0] * len(effects))

    def test_effects_of_nothing(self):
        for effects in NO_EFFECTS:
            self.refused(NoQuestion, ("effects",), nothing, effects)

    def test_later_changes_have_no_effect(self):
        effects = ["a", "b"]
        one, zeros = effect(effects, "a"), nothing(effects)
        self.assertEqual(effects, ["a", "b"])
        effects.reverse()
        self.assertEqual((one.effects, zeros.effects), (AB, AB))

    def test_example_of_the_document(self):
        q = Question(("a", "b"), (2, Ratio(-1, 3)))
        self.assertEqual(q.at((1, 6)).text(), "0")
        self.assertIs(q == 2 * effect(("a", "b"), "a") - effect(("a", "b"), "b").over(3), True)


if __name__ == "__main__":
    unittest.main()
