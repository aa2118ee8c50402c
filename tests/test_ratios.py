"""[3] to [6]: fractions, their arithmetic, their comparison and their texts."""

import operator
import unittest
from fractions import Fraction

from anymethod.errors import NoRatio
from anymethod.questions import Question
from anymethod.ratios import Ratio
from anymethod.runs import Run
from tests.helping import NO_INTEGERS, NO_NUMBERS, MethodCase

PAIRS = [(top, bottom) for top in range(-7, 8) for bottom in range(1, 6)]
INTEGERS = range(-4, 5)


def plain(value):
    return Fraction(value.top, value.bottom) if isinstance(value, Ratio) else value


class CreatedTest(MethodCase):
    def test_lowest_terms(self):
        for given, top, bottom in [
            ((3, 4), 3, 4), ((6, 8), 3, 4), ((-6, 8), -3, 4), ((6, -8), -3, 4), ((-6, -8), 3, 4),
            ((5,), 5, 1), ((-5,), -5, 1), ((5, 1), 5, 1), ((5, -1), -5, 1), ((12, 4), 3, 1), ((12, -4), -3, 1),
            ((0,), 0, 1), ((0, 1), 0, 1), ((0, 7), 0, 1), ((0, -7), 0, 1),
            ((10 ** 2000, 10 ** 1999), 10, 1), ((7, 14 * 10 ** 2000), 1, 2 * 10 ** 2000),
        ]:
            self.same_ratio(Ratio(*given), top, bottom)

    def test_by_keyword(self):
        self.same_ratio(Ratio(top=2, bottom=-6), -1, 3)

    def test_top(self):
        for top in NO_INTEGERS:
            self.refused(NoRatio, ("top",), Ratio, top)
            self.refused(NoRatio, ("top",), Ratio, top, 2)

    def test_bottom(self):
        for bottom in NO_INTEGERS:
            self.refused(NoRatio, ("bottom",), Ratio, 1, bottom)

    def test_zero(self):
        for top in (-1, 0, 1, 10 ** 100):
            self.refused(NoRatio, ("zero",), Ratio, top, 0)

    def test_first_word_first(self):
        self.refused(NoRatio, ("top",), Ratio, "1", "1")
        self.refused(NoRatio, ("top",), Ratio, None, 0)
        self.refused(NoRatio, ("top",), Ratio, True, False)
        self.refused(NoRatio, ("bottom",), Ratio, 1, False)


class ArithmeticTest(MethodCase):
    def agrees(self, action, one, other):
        """The action does with Ratios what it does with Python's own fractions."""
        expected = Fraction(action(plain(one), plain(other)))
        self.same_ratio(action(one, other), expected.numerator, expected.denominator)

    def test_two_ratios(self):
        for top, bottom in PAIRS:
            for other in (Ratio(2, 3), Ratio(-2, 3), Ratio(5), Ratio(0), Ratio(-7, 4)):
                for action in (operator.add, operator.sub, operator.mul):
                    self.agrees(action, Ratio(top, bottom), other)

    def test_an_integer_on_either_side(self):
        for top, bottom in PAIRS:
            for number in INTEGERS:
                for action in (operator.add, operator.sub, operator.mul):
                    self.agrees(action, Ratio(top, bottom), number)
                    self.agrees(action, number, Ratio(top, bottom))

    def test_some_results(self):
        self.same_ratio(Ratio(1, 2) + Ratio(1, 2), 1)
        self.same_ratio(1 - Ratio(3, 4), 1, 4)
        self.same_ratio(Ratio(3, 4) - 1, -1, 4)
        self.same_ratio(3 * Ratio(-2, 3), -2)
        self.same_ratio(Ratio(1, 3) + Ratio(-1, 3), 0)
        self.same_ratio(0 * Ratio(5, 7), 0)

    def test_signs(self):
        for top, bottom in PAIRS:
            ratio, fraction = Ratio(top, bottom), Fraction(top, bottom)
            self.same_ratio(-ratio, -fraction.numerator, fraction.denominator)
            self.same_ratio(+ratio, fraction.numerator, fraction.denominator)
            self.same_ratio(abs(ratio), abs(fraction.numerator), fraction.denominator)

    def test_floor_and_rest(self):
        for top, bottom in PAIRS:
            for other in [*map(lambda pair: Ratio(*pair), PAIRS), *INTEGERS]:
                for one, two in ((Ratio(top, bottom), other), (other, Ratio(top, bottom))):
                    if two == 0:
                        self.refused(NoRatio, ("zero",), operator.floordiv, one, two)
                        self.refused(NoRatio, ("zero",), operator.mod, one, two)
                        continue
                    floor = one // two
                    self.assertIs(floor.__class__, int)
                    self.assertEqual(floor, plain(one) // plain(two))
                    self.agrees(operator.mod, one, two)

    def test_some_floors_and_rests(self):
        self.assertEqual([Ratio(7, 2) // 1, Ratio(-7, 2) // 1, Ratio(7, 2) // -1, Ratio(-7, 2) // -1], [3, -4, -4, 3])
        self.assertEqual([7 // Ratio(-3, 2), -7 // Ratio(3, 2), 6 // Ratio(3, 2)], [-5, -5, 4])
        self.same_ratio(Ratio(-7, 2) % 1, 1, 2)
        self.same_ratio(Ratio(7, 2) % -1, -1, 2)
        self.same_ratio(-7 % Ratio(3, 2), 1, 2)
        self.same_ratio(7 % Ratio(-3, 2), -1, 2)
        self.same_ratio(Ratio(0) % Ratio(-3, 2), 0)

    def test_floor_and_rest_of_great_numbers(self):
        great = Ratio(10 ** 1500 + 1, 3)
        self.assertEqual(great // Ratio(1, 3), 10 ** 1500 + 1)
        self.same_ratio(-great % 10 ** 1500, (2 * 10 ** 1500 - 1), 3)

    def test_division_by_zero(self):
        for one in (Ratio(3, 2), Ratio(0), Ratio(-1)):
            for zero in (0, Ratio(0), Ratio(0, -5)):
                self.refused(NoRatio, ("zero",), one.over, zero)
                self.refused(NoRatio, ("zero",), operator.floordiv, one, zero)
                self.refused(NoRatio, ("zero",), operator.mod, one, zero)
        for number in (-2, 0, 5):
            self.refused(NoRatio, ("zero",), operator.floordiv, number, Ratio(0))
            self.refused(NoRatio, ("zero",), operator.mod, number, Ratio(0))

    def test_over(self):
        for top, bottom in PAIRS:
            for other in (Ratio(2, 3), Ratio(-2, 3), Ratio(-5), 3, -4, 1, -1):
                expected = Fraction(top, bottom) / plain(other)
                self.same_ratio(Ratio(top, bottom).over(other), expected.numerator, expected.denominator)

    def test_in_place_gives_a_new_object(self):
        for action, top, bottom in [
            (operator.iadd, 7, 2), (operator.isub, -1, 2), (operator.imul, 3, 1), (operator.imod, 3, 2),
            (operator.ipow, 9, 4),
        ]:
            old = Ratio(3, 2)
            new = action(old, 2)
            self.assertIsNot(new, old)
            self.same_ratio(new, top, bottom)
            self.same_ratio(old, 3, 2)
        ratio = other_name = Ratio(7, 2)
        ratio //= 2
        self.assertEqual(ratio, 1)
        self.assertIs(ratio.__class__, int)
        self.same_ratio(other_name, 7, 2)
        number = 5
        number += Ratio(1, 2)
        self.same_ratio(number, 11, 2)

    def test_in_place_with_neutral_numbers(self):
        old = Ratio(3, 2)
        for new in (operator.iadd(old, 0), operator.isub(old, 0), operator.imul(old, 1), operator.ipow(old, 1)):
            self.assertIsNot(new, old)
            self.same_ratio(new, 3, 2)


class PowerTest(MethodCase):
    def test_powers(self):
        for base in (Ratio(2, 3), Ratio(-2, 3), Ratio(5), Ratio(-5), Ratio(1), Ratio(-1), Ratio(-1, 7)):
            for k in range(-20, 21):
                expected = Fraction(base.top, base.bottom) ** k
                self.same_ratio(base.power(k), expected.numerator, expected.denominator)
                self.same_ratio(base ** k, expected.numerator, expected.denominator)

    def test_edges(self):
        self.same_ratio(Ratio(2).power(20), 1048576)
        self.same_ratio(Ratio(2).power(-20), 1, 1048576)
        self.same_ratio(Ratio(2, 3).power(0), 1)
        self.same_ratio(Ratio(-2, 3).power(-3), -27, 8)

    def test_powers_of_zero(self):
        self.same_ratio(Ratio(0).power(0), 1)
        self.same_ratio(Ratio(0) ** 0, 1)
        for k in (1, 2, 20):
            self.same_ratio(Ratio(0).power(k), 0)
            self.same_ratio(Ratio(0) ** k, 0)
        for k in (-1, -2, -20):
            self.refused(NoRatio, ("zero",), Ratio(0).power, k)
            self.refused(NoRatio, ("zero",), operator.pow, Ratio(0), k)

    def test_exponents_that_are_none(self):
        for base in (Ratio(2, 3), Ratio(0), Ratio(1)):
            for k in (-21, 21, 10 ** 30, -10 ** 30, Ratio(2), Ratio(2, 3), *NO_NUMBERS):
                self.refused(NoRatio, ("power",), base.power, k)
                self.refused(NoRatio, ("power",), operator.pow, base, k)


class ComparisonTest(MethodCase):
    def test_orders(self):
        for top, bottom in PAIRS:
            for other in (Ratio(2, 3), Ratio(-2, 3), Ratio(0), Ratio(3), Ratio(-7, 4), *INTEGERS):
                for action in (operator.lt, operator.le, operator.gt, operator.ge, operator.eq, operator.ne):
                    for one, two in ((Ratio(top, bottom), other), (other, Ratio(top, bottom))):
                        self.assertIs(action(one, two), action(plain(one), plain(two)))

    def test_same_value(self):
        self.assertIs(Ratio(2, 4) == Ratio(-1, -2), True)
        self.assertIs(Ratio(6, 3) == 2, True)
        self.assertIs(2 == Ratio(6, 3), True)
        self.assertIs(Ratio(6, 4) == 1, False)
        self.assertIs(Ratio(6, 4) == 3, False)
        self.assertIs(Ratio(2, 3) != Ratio(2, 5), True)
        self.assertIs(Ratio(2, 3) != Ratio(4, 3), True)
        self.assertIs(Ratio(1, 2) < Ratio(1, 2), False)
        self.assertIs(Ratio(1, 2) <= Ratio(1, 2), True)

    def test_great_numbers_are_compared_exactly(self):
        great = 10 ** 2000
        self.assertIs(Ratio(great + 1, great) > Ratio(great + 2, great + 1), True)
        self.assertIs(Ratio(great, great + 1) < 1, True)
        self.assertIs(Ratio(great, great + 1) == 1, False)

    def test_unequal_to_anything_else(self):
        question = Question(("a",), (1,))
        for other in (None, "1", "1/2", b"1", [1], (1, 1), (1,), {}, {1: 1}, NoRatio("top"), question, Run(question, 1),
                      len, Ratio, Fraction):
            for ratio in (Ratio(1), Ratio(0), Ratio(1, 2)):
                self.assertIs(ratio == other, False)
                self.assertIs(other == ratio, False)
                self.assertIs(ratio != other, True)


class TextTest(MethodCase):
    def test_texts(self):
        for ratio, text in [
            (Ratio(3, 4), "3/4"), (Ratio(-5), "-5"), (Ratio(0), "0"), (Ratio(0, -9), "0"), (Ratio(-6, 4), "-3/2"),
            (Ratio(7), "7"), (Ratio(1, 10), "1/10"), (Ratio(10, 1), "10"),
        ]:
            self.assertEqual(ratio.text(), text)

    def test_long_texts(self):
        nines = "9" * 4000
        self.assertEqual(Ratio(10 ** 4000 - 1).text(), nines)
        self.assertEqual(Ratio(1 - 10 ** 4000, 10 ** 3999).text(), "-" + nines + "/1" + "0" * 3999)

    def test_read(self):
        for text, top, bottom in [
            ("3/4", 3, 4), ("-5", -5, 1), ("0", 0, 1), ("-3/2", -3, 2), ("10/7", 10, 7), ("7", 7, 1),
            ("1/10", 1, 10), ("-1/100", -1, 100),
        ]:
            self.same_ratio(Ratio.read(text), top, bottom)
            self.assertEqual(Ratio.read(text).text(), text)
        self.same_ratio(Ratio(5).read("1/2"), 1, 2)

    def test_read_what_was_told(self):
        for top, bottom in PAIRS:
            ratio = Ratio(top, bottom)
            self.same_ratio(Ratio.read(ratio.text()), ratio.top, ratio.bottom)

    def test_texts_that_are_nearly_right(self):
        for text in (
            "", " ", "-", "/", "-/", "+1", "1/1", "2/4", "01", "-01", "1/02", "00", "-0", "-0/2", "0/1", "0/2", "1/0",
            "1/00", "0/0", "1/-2", "-1/-2", "1/+2", " 1", "1 ", "1\n", "\n1", "1/", "/2", "-/2", "1/2/", "1/2/3", "1//2",
            "1 /2", "1/ 2", "--1", "1-", "- 1", "1_0", "1/1_0", "1.0", "1e3", "0x1", "a", "1a", "4/2", "-3/1", "1,0",
            "\u0661", "1/\u0662", "\u00b2", "\u2212" "1", "1\u20442", "None", "True", "1\x00",
        ):
            self.refused(NoRatio, ("text",), Ratio.read, text)

    def test_what_is_no_string(self):
        for thing in (None, True, 1, Ratio(1), b"1", ["1"], ("1", "2"), {"1": 1}, [], len, Question(("a",), (1,))):
            self.refused(NoRatio, ("text",), Ratio.read, thing)

    def test_sixty_digits(self):
        nines, great = "9" * 60, 10 ** 60 - 1
        self.same_ratio(Ratio.read(nines), great)
        self.same_ratio(Ratio.read("-" + nines), -great)
        self.same_ratio(Ratio.read("1/" + nines), 1, great)
        self.same_ratio(Ratio.read("-" + nines[:-1] + "8/" + nines), 1 - great, great)

    def test_sixty_one_digits(self):
        one = "1" + "0" * 60
        for text in (one, "-" + one, "1/" + one, "3/" + one, one + "/7", "-" + one + "/" + one[:-1] + "1", "0" + "1" * 60):
            self.refused(NoRatio, ("text",), Ratio.read, text)

    def test_very_long_texts(self):
        for length in (4300, 4301, 5000, 10 ** 6):
            for text in ("9" * length, "-" + "9" * length, "1/" + "9" * length, "9" * length + "/1", "/" * length,
                         "-" * length, " " * length, "1" + " " * length, "0" * length):
                self.refused(NoRatio, ("text",), Ratio.read, text)


if __name__ == "__main__":
    unittest.main()
