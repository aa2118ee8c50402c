"""[43] and [44]: texts of questions, runs and series."""

import re
import unittest
from math import gcd

from anymethod.errors import BadText, NoQuestion
from anymethod.questions import Question, effect, nothing
from anymethod.ratios import Ratio
from anymethod.runs import Run
from anymethod.series import Series
from anymethod.texts import question_text, read_question, read_run, read_series, run_text, series_text
from tests.helping import A, AB, B, NO_EFFECTS, MethodCase, made
from tests.second import EFFECTS, Maker, turned

ABC = ("a", "b", "c")
SIXTY = "7" * 60
CHARACTERS = "abcdez019 +-*/:.,_A"
# Things that are no strings.
NO_STRINGS = (None, True, 0, 5, b"a", b"0", (), [], ("a",), ["a"], {}, {"a": 1}, range(3), Ratio(1), A, Run(A, 1), made(),
              BadText(0), len)


def second_number(text):
    """The number whose text this is, as a pair; None if there is none or if it has too many digits."""
    match = re.fullmatch(r"(0|-?[1-9][0-9]{0,59})(?:/([1-9][0-9]{0,59}))?", text)
    if match is None:
        return None
    top, bottom = int(match[1]), int(match[2] or 1)
    return (top, bottom) if match[2] is None or (bottom != 1 and gcd(top, bottom) == 1) else None


def second_question(effects, text):
    """The weights, as pairs, of the question whose text this is; None if there is none."""
    weights = {name: (0, 1) for name in effects}
    if text == "0":
        return list(weights.values())
    last = -1
    rest = text if text.startswith("-") else "+" + text
    rest = rest[0] + " " + rest[1:]
    while rest != "":
        match = re.match(r"([+-]) (?:([0-9/]+)\*)?([a-z][a-z0-9]*)(?: (?=[+-] )|\Z)", rest)
        number = None if match is None else second_number(match[2]) if match[2] is not None else (1, 1)
        if number is None or match[3] not in effects or effects.index(match[3]) <= last:
            return None
        if number == (0, 1) or (match[2] is not None and number == (1, 1)):
            return None
        last = effects.index(match[3])
        weights[match[3]] = (number[0] if match[1] == "+" else -number[0], number[1])
        rest = rest[match.end():]
    return list(weights.values())


def neighbours(text):
    """All texts with one character put in, taken out or exchanged."""
    for at in range(len(text) + 1):
        for char in CHARACTERS:
            yield text[:at] + char + text[at:]
            yield text[:at] + char + text[at + 1:]
        yield text[:at] + text[at + 1:]


class TextCase(MethodCase):
    def bad(self, effects, text):
        self.refused(BadText, (0,), read_question, effects, text)

    def good(self, effects, text):
        question = read_question(effects, text)
        self.assertIs(question.__class__, Question)
        self.assertEqual(question.effects, tuple(effects))
        self.assertEqual(question_text(question), text)
        return question

    def agrees(self, effects, text):
        """Whether the text is one of a question; the second way to read says the same."""
        weights = second_question(effects, text)
        if weights is None:
            self.bad(effects, text)
            return False
        self.same_ratios(self.good(effects, text).weights, weights)
        return True


class QuestionTextTest(TextCase):
    def test_examples(self):
        for weights, text in (((2, Ratio(-1, 3), 1), "2*a - 1/3*b + c"), ((0, -1, 0), "-b"), ((Ratio(-5, 2), 0, -1), "-5/2*a - c"),
                              ((0, 0, 0), "0")):
            self.assertEqual(question_text(Question(ABC, weights)), text)
            self.assertEqual(self.good(ABC, text), Question(ABC, weights))

    def test_weights(self):
        for weights, text in (((1, 0, 0), "a"), ((-1, 0, 0), "-a"), ((0, 0, 1), "c"), ((1, 1, 1), "a + b + c"),
                              ((-1, -1, -1), "-a - b - c"), ((0, 1, -1), "b - c"), ((10, 0, Ratio(1, 2)), "10*a + 1/2*c"),
                              ((Ratio(-1, 2), 2, 0), "-1/2*a + 2*b"), ((0, 0, Ratio(7, 3)), "7/3*c")):
            self.assertEqual(question_text(Question(ABC, weights)), text)
            self.assertEqual(self.good(ABC, text), Question(ABC, weights))

    def test_names(self):
        effects = ("a1", "a", "a12", "b0")
        question = Question(effects, (1, -2, Ratio(1, 12), -1))
        self.assertEqual(question_text(question), "a1 - 2*a + 1/12*a12 - b0")
        self.assertEqual(self.good(effects, "a1 - 2*a + 1/12*a12 - b0"), question)
        self.assertEqual(self.good(list(effects), "a12"), effect(effects, "a12"))
        self.assertEqual(self.good(effects, "1/2*a12"), effect(effects, "a12").over(2))
        for text in ("a2", "a1 - a1", "12*a 1", "a123", "a - a1", "1*a1", "a1a"):
            self.bad(effects, text)
        self.assertEqual(self.good(("abcdefgh", "abcdefg"), "3*abcdefgh - abcdefg").weights, (3, -1))

    def test_great_numbers_have_texts(self):
        great = Ratio(10 ** 999 + 1, 10 ** 998)
        self.assertEqual(question_text(great * A - B), great.text() + "*a - b")

    def test_text_and_read_again(self):
        for series, question in Maker(121, most=120).cases(60):
            self.assertEqual(self.good(question.effects, question_text(question)), question)
            for name in series.names():
                run = series[name]
                self.assertEqual(read_run(series.effects, run_text(run)), run)
            self.assertEqual(read_series(series.effects, series_text(series)), series)

    def test_by_keyword(self):
        self.assertEqual(question_text(question=A), "a")
        self.assertEqual(read_question(text="a", effects=AB), A)


class ReadQuestionTest(TextCase):
    def test_other_forms(self):
        for text in ("1*a", "+a", "a+b", "0*a", "-0", "b + a", "a + a", "", " ", "a ", " a", "a  + b", "a +  b", "a + b ", "-",
                     "--a", "- a", "-1*a", "2a", "2 a", "2*a*b", "2**a", "*a", "2*", "2*2*a", "a*2", "00", "+0", "0 + a", "a + 0",
                     "a - 0*b", "a + -b", "a - -b", "a + -2*b", "-2*a + + b", "d", "A", "a.", "(a)", "1", "-1", "1/2", "a/2",
                     "a,b", "a = b", "a +b", "a+ b", "a -b", "a + ", "a +", "a -", "+ a", "+", "a + b + ", "a b", "a * b",
                     "2 *a", "2* a", "a\n", "\na", "a\t", "c + b", "a + c + b", "a + b + c + a", "0\n", "\u0660", "2\u00b2*a"):
            self.bad(ABC, text)

    def test_numbers(self):
        for text in ("2/1*a", "2/4*a", "4/2*a", "1/1*a", "0/1*a", "0/5*a", "02*a", "2/03*a", "02/3*a", "+2*a", "2/-3*a", "-2/-3*a",
                     "2/0*a", "/2*a", "2/*a", "/*a", "2//3*a", "2/3/4*a", "1_0*a", "2.0*a", "2e1*a", " 2*a", "0x2*a", "01*a",
                     "\u0662*a", "1/\u0663*a", "a - 1*b", "a + 2/2*b", "a + 6/4*b"):
            self.bad(ABC, text)
        for text in ("2*a", "1/2*a", "10/3*a", "-10/3*a", "a - 10/3*b", "100*a + 1/100*c"):
            self.good(ABC, text)

    def test_sixty_digits(self):
        six = "1" + "0" * 59
        for text in (SIXTY + "*a", "-" + SIXTY + "*a", "1/" + SIXTY + "*a", "a - " + SIXTY + "/" + six + "*b",
                     SIXTY + "*a + " + SIXTY + "*b + 1/" + six + "*c"):
            self.good(ABC, text)
        for text in (SIXTY + "1*a", "-" + SIXTY + "1*a", "1/" + SIXTY + "1*a", SIXTY + "1/2*a", "2/" + SIXTY + "1*b", "0" + SIXTY + "*a",
                     "a - " + SIXTY + "1/" + six + "*b", "a + b - 1/" + SIXTY + "1*c", "9" * 5000 + "*a", "1/" + "9" * 5000 + "*a"):
            self.bad(ABC, text)

    def test_many_terms(self):
        """The sum of many terms would have more digits than Python turns into text."""
        bottoms = [10 ** 59 + at for at in range(1, 2000)]
        self.bad(ABC, " + ".join("1/" + str(bottom) + "*a" for bottom in bottoms))
        self.bad(ABC, " + ".join("a" for _ in range(10000)))
        self.bad(ABC, "a + b + c + a")

    def test_no_string(self):
        for text in NO_STRINGS:
            self.bad(ABC, text)

    def test_no_effects_come_first(self):
        for effects in NO_EFFECTS:
            for text in ("a", "0", "", "+a", None, 5):
                self.refused(NoQuestion, ("effects",), read_question, effects, text)

    def test_one_character_changed(self):
        seen = {True: 0, False: 0}
        for effects, text in ((ABC, "2*a - 1/3*b + c"), (ABC, "-b"), (ABC, "0"), (ABC, ""), (ABC, "-5/2*a - c"), (ABC, "a + b"),
                              (ABC, "10*a"), (("a1", "a", "z"), "a1 - 12/5*a"), (("a", "ab", "c0"), "-a + 9*ab - 1/10*c0"),
                              (("e",), "e"), (EFFECTS, "a - b + c - d")):
            for changed in neighbours(text):
                seen[self.agrees(effects, changed)] += 1
        self.assertGreater(min(seen.values()), 100)

    def test_two_characters_changed(self):
        for changed in neighbours("2*a - b"):
            for again in list(neighbours(changed))[::7]:
                self.agrees(("a", "b", "ab"), again)


class RunTextTest(TextCase):
    def test_examples(self):
        run = Run(A - B, Ratio(1, 2))
        self.assertEqual(run_text(run), "a - b +- 1/2")
        self.assertEqual(read_run(AB, "a - b +- 1/2"), run)
        self.assertEqual(read_run(text="a - b +- 1/2", effects=["a", "b"]), run)
        self.assertEqual(run_text(run=Run(nothing(AB), 0)), "0 +- 0")
        read = read_run(AB, "0 +- 0")
        self.assertIs(read.__class__, Run)
        self.same_ratio(read.slip, 0)
        self.assertEqual(read, Run(nothing(AB), 0))

    def test_other_forms(self):
        for text in ("", "a", "a +-", "a +- ", "a +-1", "a+- 1", "a  +- 1", "a +-  1", " a +- 1", "a +- 1 ", "+- 1", " +- 1", "a - 1",
                     "a + 1", "a -+ 1", "a +- +1", "a +- -1", "a +- -1/2", "a +- -0", "a +- 01", "a +- 2/4", "a +- 1/1", "a +- 0/1",
                     "a +- a", "a +- 1*b", "1*a +- 1", "b + a +- 1", "a + a +- 1", "d +- 1", "a +- 1 +- 1", "a +- 1 +- ", "a +- 1/0",
                     "a +- 1.5", "a +- 1\n", "x: a +- 1", "0 + a +- 1"):
            self.refused(BadText, (0,), read_run, AB, text)

    def test_sixty_digits(self):
        for text in ("a +- " + SIXTY, "a +- 1/" + SIXTY, SIXTY + "*a +- 1"):
            self.assertEqual(run_text(read_run(AB, text)), text)
        for text in ("a +- " + SIXTY + "1", "a +- 1/" + SIXTY + "1", "a +- " + SIXTY + "1/2", SIXTY + "1*a +- 1"):
            self.refused(BadText, (0,), read_run, AB, text)

    def test_no_string(self):
        for text in NO_STRINGS:
            self.refused(BadText, (0,), read_run, AB, text)

    def test_no_effects_come_first(self):
        for effects in NO_EFFECTS:
            for text in ("a +- 1", "a", "", None):
                self.refused(NoQuestion, ("effects",), read_run, effects, text)

    def second_run(self, effects, text):
        asked, sign, slip = text.partition(" +- ")
        weights, number = second_question(effects, asked), second_number(slip)
        if sign == "" or weights is None or number is None or number[0] < 0:
            return None
        return weights, number

    def test_one_character_changed(self):
        seen = {True: 0, False: 0}
        for text in ("2*a - b +- 1/2", "0 +- 0", "-a +- 10", "b +- 3"):
            for changed in neighbours(text):
                expected = self.second_run(AB, changed)
                seen[expected is not None] += 1
                if expected is None:
                    self.refused(BadText, (0,), read_run, AB, changed)
                else:
                    run = read_run(AB, changed)
                    self.same_ratios(run.question.weights, expected[0])
                    self.same_ratio(run.slip, *expected[1])
                    self.assertEqual(run_text(run), changed)
        self.assertGreater(min(seen.values()), 30)


class SeriesTextTest(TextCase):
    LINES = ["x: a - b +- 1/2", "x1: 0 +- 0", "y: -2*b +- 3"]
    SERIES = made(y=Run(-2 * B, 3), x=Run(A - B, Ratio(1, 2)), x1=Run(nothing(AB), 0))

    def bad_lines(self, lines, place):
        self.refused(BadText, (place,), read_series, AB, lines)
        self.refused(BadText, (place,), read_series, AB, tuple(lines))

    def test_text(self):
        self.assertEqual(series_text(self.SERIES), self.LINES)
        self.assertEqual(series_text(series=turned(self.SERIES)), self.LINES)
        self.assertIs(series_text(self.SERIES).__class__, list)
        self.assertEqual(series_text(made()), [])
        self.assertEqual(series_text(made(x=Run(A - B, Ratio(1, 2)))), ["x: a - b +- 1/2"])

    def test_read(self):
        for lines in (self.LINES, tuple(self.LINES)):
            series = read_series(AB, lines)
            self.assertIs(series.__class__, Series)
            self.assertEqual(series, self.SERIES)
        self.assertEqual(read_series(lines=[], effects=["a", "b"]), made())
        self.assertEqual(read_series(AB, ()), made())

    def test_no_effects_come_first(self):
        for effects in NO_EFFECTS:
            for lines in ([], self.LINES, [None], ["x"]):
                self.refused(NoQuestion, ("effects",), read_series, effects, lines)

    def test_lines_that_are_none(self):
        for line in ("", "x", "x:", "x: ", "x: a", "x:a +- 1", "x : a +- 1", " x: a +- 1", "x:  a +- 1", "x: a +- 1 ", "X: a +- 1",
                     ": a +- 1", "a +- 1", "x a +- 1", "x; a +- 1", "1x: a +- 1", "abcdefghi: a +- 1", "x: y: a +- 1", "x: a +- -1",
                     "x: b + a +- 1", "x: d +- 1", "x: a +- " + SIXTY + "1", "x_: a +- 1", "x: a +- 1\n", "x:: a +- 1", *NO_STRINGS):
            self.bad_lines([line], 0)
            self.bad_lines([line, line], 0)
            self.bad_lines(["a: a +- 1", "b: 0 +- 0", line, "x"], 2)

    def test_order(self):
        x, y, z = "x: a +- 1", "y: a +- 1", "z: b +- 2"
        self.bad_lines([y, x], 1)
        self.bad_lines([x, x], 1)
        self.bad_lines([x, z, y], 2)
        self.bad_lines([x, y, x, None], 2)
        self.bad_lines([y, x, None], 1)
        self.bad_lines(["a9: a +- 1", "a10: a +- 1"], 1)
        self.bad_lines([x, y, y], 2)
        self.assertEqual(read_series(AB, ["a: a +- 1", "a10: a +- 1", "a9: a +- 1", "aa: a +- 1"]).names(), ["a", "a10", "a9", "aa"])

    def test_the_ninth_line(self):
        lines = [name + ": a +- 1" for name in "abcdefgh"]
        self.assertEqual(read_series(AB, lines).names(), list("abcdefgh"))
        for ninth in ("i: a +- 1", "a: a +- 1", "x", None):
            self.bad_lines([*lines, ninth], 8)
            self.bad_lines([*lines, ninth, None], 8)
        self.bad_lines([*lines[:7], None, "i: a +- 1"], 7)

    def test_the_first_place(self):
        for place in range(8):
            lines = [name + ": a +- 1" for name in "abcdefgh"]
            lines[place] = "p"
            self.bad_lines(lines, place)
            lines[7] = "q"
            self.bad_lines(lines, place)

    def test_full_series_and_back(self):
        maker = Maker(122)
        for count in range(9):
            series = maker.series(EFFECTS, count)
            lines = series_text(series)
            self.assertEqual(len(lines), count)
            self.assertEqual(series_text(read_series(EFFECTS, lines)), lines)

    def test_results_are_new(self):
        series_text(self.SERIES).clear()
        lines = list(self.LINES)
        series = read_series(AB, lines)
        lines.clear()
        series.drop("x")
        self.assertEqual(series_text(self.SERIES), self.LINES)
        self.assertEqual(read_series(AB, self.LINES), self.SERIES)

    def test_one_character_changed(self):
        seen = set()
        for changed in neighbours("x1: a +- 1"):
            name, sign, text = changed.partition(": ")
            asked, middle, slip = text.partition(" +- ")
            number = second_number(slip)
            good = bool(re.fullmatch("[a-z][a-z0-9]{0,7}", name) and sign and middle and number and number[0] >= 0
                        and second_question(AB, asked) is not None)
            seen.add(good)
            if good:
                self.assertEqual(series_text(read_series(AB, [changed])), [changed])
            else:
                self.bad_lines([changed], 0)
        self.assertEqual(seen, {True, False})


if __name__ == "__main__":
    unittest.main()
