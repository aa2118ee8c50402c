"""[45] to [47]: the desk, its lines, undo and redo, the journal, and many lines at once."""

import time
import unittest

from anymethod.clashes import surely_wild
from anymethod.desk import Desk, allow
from anymethod.errors import (
    BadLine, BadText, Clash, Full, MethodError, NoCommand, NoName, NoQuestion, NoReadings, NoRedo, NoSuch, NoUndo, NoWild,
    Unbounded,
)
from anymethod.questions import nothing
from anymethod.ratios import Ratio
from anymethod.readings import estimate, stretches
from anymethod.runs import Run
from anymethod.series import Series
from anymethod.telling import least_error
from anymethod.texts import question_text, run_text, series_text
from tests.helping import A, AB, B, NO_EFFECTS, NO_WILDS, MethodCase, made
from tests.second import EFFECTS, Maker

SIXTY = "7" * 60
START = ["run x a +- 1", "run y a + b +- 2", "read x 5", "read y 9"]
QUESTIONS = ("ask", "values", "estimate")
# Lines that are no command, with the error and what it is about.
REFUSED = (
    ("", NoCommand, 0), (" ", NoCommand, 0), (" run x a +- 1", NoCommand, 0), ("walk x", NoCommand, 0), ("Run x a +- 1", NoCommand, 0),
    ("runs x a +- 1", NoCommand, 0), ("ru", NoCommand, 0), ("run:", NoCommand, 0), ("limit 1", NoCommand, 0), ("tell", NoCommand, 0),
    ("run", NoCommand, 1), ("run ", NoCommand, 1), ("run x", NoCommand, 1), ("run a+-1", NoCommand, 1), ("read", NoCommand, 1),
    ("read ", NoCommand, 1), ("read x", NoCommand, 1), ("drop", NoCommand, 1), ("wild", NoCommand, 1), ("ask", NoCommand, 1),
    ("values", NoCommand, 1), ("estimate", NoCommand, 1), ("off ", NoCommand, 1), ("off x", NoCommand, 1), ("names ", NoCommand, 1),
    ("names x", NoCommand, 1), ("undo ", NoCommand, 1), ("undo x", NoCommand, 1), ("redo ", NoCommand, 1), ("redo 1", NoCommand, 1),
    ("off  ", NoCommand, 1), ("wild ", NoCommand, 1), ("wild 3", NoCommand, 1), ("wild 00", NoCommand, 1), ("wild -1", NoCommand, 1),
    ("wild 1 ", NoCommand, 1), ("wild  1", NoCommand, 1), ("wild one", NoCommand, 1), ("wild 0 1", NoCommand, 1), ("wild +1", NoCommand, 1),
    ("wild 1/1", NoCommand, 1), ("wild 01", NoCommand, 1), ("wild True", NoCommand, 1),
    ("run  a +- 1", NoName, ""), ("run X a +- 1", NoName, "X"), ("run 1x a +- 1", NoName, "1x"), ("run abcdefghi a", NoName, "abcdefghi"),
    ("run x: a +- 1", NoName, "x:"), ("run  x a +- 1", NoName, ""), ("run x. ", NoName, "x."), ("run  ", NoName, ""),
    ("run z ", BadText, 0), ("run z a", BadText, 0), ("run z  a +- 1", BadText, 0), ("run z a +- 1 ", BadText, 0),
    ("run z c +- 1", BadText, 0), ("run z a +- -1", BadText, 0), ("run z b + a +- 1", BadText, 0), ("run z a +- " + SIXTY + "1", BadText, 0),
    ("run x a + a +- 1", BadText, 0), ("run x y a +- 1", BadText, 0), ("run z 1*a +- 1", BadText, 0),
    ("drop ", NoSuch, ""), ("drop z", NoSuch, "z"), ("drop x ", NoSuch, "x "), ("drop  x", NoSuch, " x"), ("drop x y", NoSuch, "x y"),
    ("drop X", NoSuch, "X"), ("read z 5", NoSuch, "z"), ("read z ", NoSuch, "z"), ("read  5", NoSuch, ""), ("read  x 5", NoSuch, ""),
    ("read X 5", NoSuch, "X"), ("read z five", NoSuch, "z"),
    ("read x ", BadText, 0), ("read x  5", BadText, 0), ("read x 5 ", BadText, 0), ("read x +5", BadText, 0), ("read x 2/4", BadText, 0),
    ("read x 05", BadText, 0), ("read x -0", BadText, 0), ("read x 5/1", BadText, 0), ("read x a", BadText, 0), ("read x 1.5", BadText, 0),
    ("read x " + SIXTY + "1", BadText, 0), ("read x 1/" + SIXTY + "1", BadText, 0), ("read x 5 5", BadText, 0),
    *[(command + text, BadText, 0) for command in QUESTIONS for text in (" ", " c", "  a", " a ", " +a", " 1*a", " a+b", " b + a", " x",
                                                                          " -0", " " + SIXTY + "1*a", " a +- 1")],
)


def told(*lines, effects=AB):
    desk = Desk(effects)
    for line in lines:
        desk.tell(line)
    return desk


class DeskCase(MethodCase):
    def state(self, desk):
        """All that can be seen of a desk."""
        return series_text(desk.series_now()), desk.readings_now(), desk.limit, desk.journal()

    def refused_line(self, desk, line, error, *fields):
        """The line is refused and changes nothing, not even what can be undone and redone."""
        before = self.state(desk)
        for action in (desk.tell, desk):
            self.refused(error, fields, action, line)
        self.assertEqual(self.state(desk), before)

    def answer(self, desk, line, expected):
        before = self.state(desk)
        for action in (desk.tell, desk):
            self.assertEqual(action(line), expected)
            self.assertIs(action(line).__class__, str)
        self.assertEqual(self.state(desk), before)

    def change(self, desk, line):
        """A change that is made; the journal tells it, and told anew it leads to the same."""
        journal = desk.journal()
        self.assertEqual(desk.tell(line), "ok")
        self.assertEqual(desk.journal(), [*journal, line])
        self.replayed(desk)

    def replayed(self, desk):
        other = told(*desk.journal(), effects=desk.series_now().effects)
        self.assertEqual(self.state(other), self.state(desk))
        self.assertEqual(other.series_now(), desk.series_now())


class StartTest(DeskCase):
    def test_at_first(self):
        for effects in (AB, list(AB), ("a",)):
            desk = Desk(effects)
            self.assertEqual(desk.series_now(), Series(effects))
            self.assertEqual((desk.readings_now(), desk.limit, desk.journal()), ({}, 0, []))
            self.refused_line(desk, "undo", NoUndo)
            self.refused_line(desk, "redo", NoRedo)
        self.assertEqual(Desk(effects=AB).tell(line="names"), "none")
        self.assertEqual(Desk(AB)(line="names"), "none")

    def test_no_effects(self):
        for effects in NO_EFFECTS:
            self.refused(NoQuestion, ("effects",), Desk, effects)

    def test_later_changes_of_the_effects(self):
        effects = ["a", "b"]
        desk = Desk(effects)
        effects[0] = "c"
        self.assertEqual(desk.tell("run x a - b +- 1"), "ok")

    def test_two_desks(self):
        one, other = told(*START), Desk(AB)
        self.assertEqual(self.state(other), ([], {}, 0, []))
        other.tell("run x b +- 3")
        other.limit = 2
        self.assertEqual(self.state(one), (["x: a +- 1", "y: a + b +- 2"], {"x": 5, "y": 9}, 0, START))
        one.tell("undo")
        self.assertEqual(other.journal(), ["run x b +- 3", "wild 2"])


class ChangeTest(DeskCase):
    def test_run(self):
        desk = Desk(AB)
        self.change(desk, "run x a - 1/2*b +- 3/4")
        self.change(desk, "run a1234567 0 +- 0")
        self.assertEqual(desk.series_now(), made(x=Run(A - B.over(2), Ratio(3, 4)), a1234567=Run(nothing(AB), 0)))
        self.change(desk, "run x -b +- 2")
        self.assertEqual(desk.series_now()["x"], Run(-B, 2))

    def test_run_over_a_name_that_has_a_reading(self):
        desk = told(*START)
        self.change(desk, "run x b +- 3")
        self.assertEqual(desk.series_now(), made(x=Run(B, 3), y=Run(A + B, 2)))
        self.assertEqual(desk.readings_now(), {"x": 5, "y": 9})

    def test_drop(self):
        desk = told(*START)
        self.change(desk, "drop x")
        self.assertEqual(desk.series_now(), made(y=Run(A + B, 2)))
        self.assertEqual(desk.readings_now(), {"y": 9})
        self.refused_line(desk, "drop x", NoSuch, "x")
        self.refused_line(desk, "read x 1", NoSuch, "x")
        self.change(desk, "run x a +- 1")
        self.assertEqual(desk.readings_now(), {"y": 9})
        # Without a reading.
        self.change(desk, "drop x")
        self.assertEqual(desk.readings_now(), {"y": 9})

    def test_read(self):
        desk = told(*START)
        for text in ("0", "-3", "7/2", "-7/2", SIXTY, "-1/" + SIXTY):
            self.change(desk, "read x " + text)
            reading = desk.readings_now()["x"]
            self.assertIs(reading.__class__, Ratio)
            self.assertEqual(reading.text(), text)
            self.assertEqual(desk.readings_now()["y"], 9)

    def test_wild(self):
        desk = Desk(AB)
        for number in (0, 1, 2, 2, 0):
            self.change(desk, f"wild {number}")
            self.assertEqual(desk.limit, number)
            self.assertIs(desk.limit.__class__, int)

    def test_a_ninth_run(self):
        desk = told(*["run " + name + " a +- 1" for name in "abcdefgh"])
        self.refused_line(desk, "run i a +- 1", Full, 9)
        self.refused_line(desk, "run i c +- 1", BadText, 0)
        self.refused_line(desk, "run I a +- 1", NoName, "I")
        self.change(desk, "run h b +- 2")
        self.change(desk, "drop a")
        self.change(desk, "run i a +- 1")
        self.refused_line(desk, "run a a +- 1", Full, 9)

    def test_names_like_commands(self):
        desk = Desk(("run", "drop"))
        self.assertEqual(desk.tell("run run run +- 1"), "ok")
        self.assertEqual(desk.tell("run undo run - drop +- 1"), "ok")
        self.assertEqual(desk.tell("names"), "run, undo")
        self.assertEqual(desk.tell("ask drop"), "2")

    def test_refused_lines(self):
        for line, error, *fields in REFUSED:
            self.refused_line(told(*START), line, error, *fields)
            desk = told(*START, "wild 1", "run z b +- 9", "undo", "undo")
            self.refused_line(desk, line, error, *fields)
            self.assertEqual([desk.tell("redo"), desk.tell("redo")], ["ok", "ok"])
            self.refused_line(desk, "redo", NoRedo)
            self.assertEqual([desk.tell("undo") for _ in range(6)], ["ok"] * 6)
            self.refused_line(desk, "undo", NoUndo)


class QuestionTest(DeskCase):
    def test_ask(self):
        desk = told(*START)
        self.answer(desk, "ask a", "1")
        self.answer(desk, "ask b", "3")
        self.answer(desk, "ask -1/2*b", "3/2")
        self.answer(desk, "ask 0", "0")
        desk.tell("drop y")
        self.answer(desk, "ask b", "unbounded")
        self.answer(desk, "ask a", "1")
        desk.tell("wild 1")
        self.answer(desk, "ask a", "unbounded")
        self.answer(desk, "ask 0", "0")

    def test_values(self):
        desk = told(*START)
        self.answer(desk, "values a", "4..6")
        self.answer(desk, "values b", "1..7")
        self.answer(desk, "values 1/2*a - b", "-5..2")
        self.answer(desk, "values 0", "0..0")
        desk.tell("wild 1")
        self.answer(desk, "values a", "all")
        self.answer(told("run x a +- 0", "read x -1/2"), "values a", "-1/2..-1/2")

    def test_several_pairs(self):
        lines = ["run x a +- 1", "run y a +- 1", "run z a +- 1", "read x 0", "read y 10", "read z -41/2", "wild 2"]
        self.answer(told(*lines), "values a", "-43/2..-39/2, -1..1, 9..11")
        self.answer(told(*lines), "values -2*a", "-22..-18, -2..2, 39..43")
        self.answer(told(*lines, "wild 1"), "values a", "none")

    def test_all_and_none(self):
        self.answer(Desk(AB), "values a", "all")
        self.answer(Desk(AB), "values 0", "0..0")
        desk = told("run x a +- 1", "run y a +- 1", "read x 0", "read y 3")
        for question in ("a", "b", "0", "a - b"):
            self.answer(desk, "values " + question, "none")

    def test_estimate(self):
        desk = told(*START)
        self.answer(desk, "estimate a", "5")
        self.answer(desk, "estimate b", "4")
        desk.tell("read x 9/2")
        self.answer(desk, "estimate -a", "-9/2")
        self.answer(desk, "estimate 0", "0")

    def test_clash(self):
        desk = told("run x a +- 1", "run y a +- 1", "read x 0", "read y 3")
        for question in ("a", "b", "0"):
            self.refused_line(desk, "estimate " + question, Clash)
        self.refused_line(desk, "off", Clash)
        desk.tell("wild 1")
        self.answer(desk, "estimate a", "3/2")
        self.answer(desk, "off", "none")

    def test_unbounded(self):
        self.refused_line(Desk(AB), "estimate a", Unbounded)
        self.refused_line(told(*START, "wild 2"), "estimate b", Unbounded)

    def test_off(self):
        lines = ["run x a +- 1", "run z a +- 1", "run y a +- 1", "read x 0", "read y 1", "read z 9", "wild 1"]
        self.answer(told(*lines), "off", "z")
        self.answer(told(*lines, "run w a +- 1", "read w -9", "wild 2"), "off", "w, z")
        self.answer(told(*START), "off", "none")
        self.answer(Desk(AB), "off", "none")

    def test_names(self):
        self.answer(Desk(AB), "names", "none")
        self.answer(told(*START), "names", "x, y")
        self.answer(told("run b a +- 1", "run a9 a +- 1", "run a10 a +- 1", "run a a +- 1"), "names", "a, a10, a9, b")

    def test_no_readings(self):
        desk = told("run z a +- 1", "run x a +- 1", "run y b +- 1", "read x 0")
        for line in ("values a", "estimate b", "off"):
            self.refused_line(desk, line, NoReadings, "y")
        desk.tell("read y 1")
        for line in ("values a", "estimate b", "off"):
            self.refused_line(desk, line, NoReadings, "z")
        # A question that is none comes first.
        self.refused_line(desk, "values c", BadText, 0)
        self.refused_line(desk, "estimate c", BadText, 0)
        self.answer(desk, "ask a", "1")

    def test_the_same_as_the_functions(self):
        maker = Maker(181, most=4)
        seen = set()
        for series, question in maker.cases(40, most_effects=3, most_runs=6):
            wild = maker.chance.choice((0, 0, 1, 2))
            readings = maker.readings(series, wild=wild)
            desk = Desk(series.effects)
            for name in series.names():
                desk.tell("run " + name + " " + run_text(series[name]))
                desk.tell("read " + name + " " + readings[name].text())
            desk.limit = wild
            self.assertEqual((desk.series_now(), desk.readings_now()), (series, readings))
            text = question_text(question)
            error = least_error(series, question, wild=wild)
            self.answer(desk, "ask " + text, "unbounded" if error is None else error.text())
            pairs = stretches(series, question, readings, wild=wild)
            seen.add(pairs == [(None, None)])
            if pairs == [(None, None)]:
                self.answer(desk, "values " + text, "all")
                self.refused_line(desk, "estimate " + text, Unbounded)
            else:
                self.answer(desk, "values " + text, ", ".join(low.text() + ".." + high.text() for low, high in pairs))
                self.answer(desk, "estimate " + text, estimate(series, question, readings, wild=wild).text())
            self.answer(desk, "off", ", ".join(surely_wild(series, readings, wild=wild)) or "none")
            self.answer(desk, "names", ", ".join(series.names()) or "none")
        self.assertEqual(seen, {True, False})


class UndoTest(DeskCase):
    LINES = [*START, "wild 2", "drop x", "run y b +- 7", "run x 0 +- 0", "wild 1", "read y -1/3", "wild 1", "run x 0 +- 0"]

    def test_over_several_changes(self):
        desk = Desk(AB)
        states = [self.state(desk)]
        for line in self.LINES:
            self.change(desk, line)
            states.append(self.state(desk))
        for _ in range(2):
            for state in reversed(states[:-1]):
                self.assertEqual(desk.tell("undo"), "ok")
                self.assertEqual(self.state(desk), state)
                self.replayed(desk)
            self.refused_line(desk, "undo", NoUndo)
            for state in states[1:]:
                self.assertEqual(desk.tell("redo"), "ok")
                self.assertEqual(self.state(desk), state)
            self.refused_line(desk, "redo", NoRedo)

    def test_the_journal_behind_undo_and_redo(self):
        desk = told(*self.LINES, "undo", "undo", "redo")
        self.assertEqual(desk.journal(), self.LINES[:-1])
        self.replayed(desk)

    def test_a_change_behind_an_undo(self):
        desk = told(*START, "undo", "undo")
        self.change(desk, "wild 1")
        self.refused_line(desk, "redo", NoRedo)
        self.assertEqual(desk.journal(), [*START[:2], "wild 1"])
        desk.tell("undo")
        self.assertEqual(desk.journal(), START[:2])
        desk.tell("redo")
        self.assertEqual(desk.journal(), [*START[:2], "wild 1"])

    def test_a_change_that_changes_nothing(self):
        for line in ("wild 0", "run x a +- 1", "read x 5"):
            desk = told(*START, "wild 1", "undo")
            self.change(desk, line)
            self.refused_line(desk, "redo", NoRedo)
            self.assertEqual(desk.tell("undo"), "ok")
            self.assertEqual(desk.journal(), START)

    def test_questions_and_refused_lines_end_nothing(self):
        desk = told(*START, "wild 1", "undo")
        desk.tell("ask a")
        desk.tell("names")
        self.refused_line(desk, "wild 3", NoCommand, 1)
        self.refused_line(desk, "drop z", NoSuch, "z")
        self.assertEqual(desk.tell("redo"), "ok")
        self.assertEqual(desk.journal(), [*START, "wild 1"])

    def test_undo_and_redo_are_no_changes(self):
        desk = told("wild 1", "wild 2", "undo", "undo")
        self.assertEqual((desk.limit, desk.journal()), (0, []))
        self.assertEqual([desk.tell("redo"), desk.limit, desk.tell("redo"), desk.limit], ["ok", 1, "ok", 2])

    def test_readings_come_back(self):
        desk = told(*START, "drop x", "run x b +- 4")
        self.assertEqual(desk.readings_now(), {"y": 9})
        desk.tell("undo")
        desk.tell("undo")
        self.assertEqual(desk.readings_now(), {"x": 5, "y": 9})
        self.assertEqual(desk.series_now()["x"], Run(A, 1))

    def test_any(self):
        maker = Maker(182)
        chance = maker.chance
        desk, before, undone = Desk(AB), [], []
        seen = set()
        for _ in range(800):
            name = chance.choice("xyz")
            line = chance.choice(("undo", "undo", "redo", "redo", "drop " + name, "read " + name + " " + maker.number().text(),
                                  "run " + name + " " + run_text(maker.run(AB)), f"wild {chance.randint(0, 3)}", "ask a", "off"))
            state = self.state(desk)
            try:
                desk.tell(line)
            except MethodError as error:
                self.assertEqual(self.state(desk), state)
                if line == "undo":
                    self.assertEqual((error.told(), before), ("refused noundo", []))
                if line == "redo":
                    self.assertEqual((error.told(), undone), ("refused noredo", []))
                seen.add(error.told())
                continue
            if line == "undo":
                undone.append(state)
                self.assertEqual(self.state(desk), before.pop())
            elif line == "redo":
                before.append(state)
                self.assertEqual(self.state(desk), undone.pop())
            elif line not in ("ask a", "off"):
                before.append(state)
                undone = []
                self.assertEqual(desk.journal(), [*state[3], line])
            if chance.randint(0, 9) == 0:
                self.replayed(desk)
        self.assertGreater(len(seen), 4)


class LimitTest(DeskCase):
    def test_set(self):
        desk = told(*START)
        desk.limit = 2
        self.assertEqual(desk.limit, 2)
        self.assertEqual(desk.journal(), [*START, "wild 2"])
        self.answer(desk, "values a", "all")
        desk.limit = 0
        self.assertEqual(desk.journal(), [*START, "wild 2", "wild 0"])
        self.replayed(desk)
        self.assertEqual([desk.tell("undo"), desk.limit, desk.tell("undo"), desk.limit], ["ok", 2, "ok", 0])
        self.assertEqual([desk.tell("redo"), desk.limit], ["ok", 2])

    def test_a_limit_that_stands_already(self):
        desk = told("wild 1", "wild 2", "undo")
        desk.limit = 1
        self.assertEqual(desk.journal(), ["wild 1", "wild 1"])
        self.refused_line(desk, "redo", NoRedo)

    def test_plus_one(self):
        desk = Desk(AB)
        desk.limit += 1
        self.assertEqual((desk.limit, desk.journal()), (1, ["wild 1"]))

    def test_no_wild(self):
        desk = told("wild 1", "wild 2", "undo")
        before = self.state(desk)
        for number in NO_WILDS:
            with self.assertRaises(NoWild):
                desk.limit = number
            self.refused(NoWild, (), allow, desk, number)
            self.assertEqual(self.state(desk), before)
        self.assertEqual(desk.tell("redo"), "ok")

    def test_allow(self):
        desk = Desk(AB)
        self.assertEqual(allow(desk, 2), 0)
        self.assertEqual(allow(number=1, desk=desk), 2)
        self.assertEqual(allow(desk, 1), 1)
        self.assertEqual((desk.limit, desk.journal()), (1, ["wild 2", "wild 1", "wild 1"]))
        self.assertEqual([desk.tell("undo"), desk.tell("undo"), desk.limit], ["ok", "ok", 2])

    def test_property(self):
        self.assertIsInstance(vars(Desk)["limit"], property)


class NewTest(DeskCase):
    def test_what_is_returned_is_new(self):
        desk = told(*START)
        before = self.state(desk)
        series = desk.series_now()
        series.drop("x")
        series["z"] = Run(A, 1)
        series["y"] = Run(B, 0)
        desk.readings_now().clear()
        desk.readings_now()["z"] = 1
        desk.journal().clear()
        self.assertEqual(self.state(desk), before)
        series, readings, journal = desk.series_now(), desk.readings_now(), desk.journal()
        desk.tell("drop x")
        self.assertEqual((series_text(series), readings, journal), (before[0], before[1], before[3]))

    def test_what_was_returned_before_an_undo(self):
        desk = told(*START)
        readings = desk.readings_now()
        readings["x"] = None
        desk.tell("read x 7")
        desk.tell("undo")
        self.assertEqual(desk.readings_now(), {"x": 5, "y": 9})

    def test_journal_as_told(self):
        desk = told("run x -1/2*a + b +- 0", "wild 2", "read x -3/7")
        self.assertEqual(desk.journal(), ["run x -1/2*a + b +- 0", "wild 2", "read x -3/7"])


class TellAllTest(DeskCase):
    def test_answers(self):
        desk = Desk(AB)
        for lines in (START, ("names", "ask a", "undo", "redo", "values b")):
            answers = desk.tell_all(lines)
            self.assertIs(answers.__class__, list)
        self.assertEqual(answers, ["x, y", "1", "ok", "ok", "1..7"])
        self.assertEqual(desk.journal(), START)
        self.assertEqual(Desk(AB).tell_all(lines=START), ["ok"] * 4)

    def test_no_line(self):
        desk = told(*START, "undo")
        before = self.state(desk)
        self.assertEqual((desk.tell_all([]), desk.tell_all(())), ([], []))
        self.assertEqual(self.state(desk), before)
        self.assertEqual(desk.tell("redo"), "ok")

    def test_each_change_can_be_undone_alone(self):
        desk = Desk(AB)
        desk.tell_all([*START, "ask a", "wild 1"])
        for at in range(5, 0, -1):
            self.assertEqual(desk.journal(), [*START, "wild 1"][:at])
            self.assertEqual(desk.tell("undo"), "ok")
        self.assertEqual(desk.journal(), [])
        self.refused_line(desk, "undo", NoUndo)

    def test_a_line_that_fails(self):
        good = ["run z b +- 4", "undo", "undo", "wild 2", "drop y", "undo", "redo", "names"]
        for line, error, *fields in (*REFUSED, ("redo", NoRedo), ("estimate a", Unbounded)):
            for place in range(3, len(good) + 1):
                desk = told(*START, "wild 1", "read x 1", "undo")
                before = self.state(desk)
                lines = [*good[:place], "wild 0", "wild 2", line, *good[place:], "strange"]
                with self.assertRaises(BadLine) as caught:
                    desk.tell_all(lines)
                self.assertEqual(caught.exception.line, place + 2)
                self.assertEqual(caught.exception.word, "refused " + error.__name__.lower())
                cause = caught.exception.__cause__
                self.assertIs(cause.__class__, error)
                self.assertEqual(tuple(vars(cause).values()), tuple(fields))
                self.assertEqual(self.state(desk), before)
                # What could be undone and redone still can.
                self.assertEqual(desk.tell("redo"), "ok")
                self.assertEqual(desk.journal(), [*before[3], "read x 1"])
                self.refused_line(desk, "redo", NoRedo)
                for _ in range(6):
                    self.assertEqual(desk.tell("undo"), "ok")
                self.refused_line(desk, "undo", NoUndo)

    def test_the_first_line_fails(self):
        desk = told(*START)
        before = self.state(desk)
        self.refused(BadLine, (0, "refused nocommand"), desk.tell_all, ["", *START])
        self.refused(BadLine, (0, "refused noredo"), desk.tell_all, ("redo",))
        self.assertEqual(self.state(desk), before)

    def test_undo_and_redo_alone_are_put_back(self):
        for lines in (["undo"], ["redo"], ["undo", "undo", "redo"], ["redo", "undo", "undo", "undo"], ["redo", "redo"]):
            desk = told(*START, "wild 1", "wild 2", "undo", "undo")
            before = self.state(desk)
            self.refused(BadLine, (len(lines), "refused nocommand"), desk.tell_all, [*lines, "walk"])
            self.assertEqual(self.state(desk), before)
            self.assertEqual([desk.tell("redo"), desk.tell("redo")], ["ok", "ok"])
            self.assertEqual(desk.journal(), [*START, "wild 1", "wild 2"])
            self.refused_line(desk, "redo", NoRedo)
            self.assertEqual([desk.tell("undo") for _ in range(6)], ["ok"] * 6)
            self.refused_line(desk, "undo", NoUndo)

    def test_undo_beyond_the_start(self):
        desk = told("wild 1")
        self.refused(BadLine, (3, "refused noundo"), desk.tell_all, ["wild 2", "undo", "undo", "undo"])
        self.assertEqual(desk.journal(), ["wild 1"])
        self.refused_line(desk, "redo", NoRedo)

    def test_lists_are_new(self):
        lines = list(START)
        desk = Desk(AB)
        desk.tell_all(lines).clear()
        lines.clear()
        self.assertEqual(desk.journal(), START)


class SpeedTest(DeskCase):
    def test_many_lines(self):
        desk = Desk(EFFECTS)
        start = time.perf_counter()
        desk.tell_all(["run x a +- 1"] * 3000)
        for _ in range(3000):
            desk.tell("undo")
        self.assertLess(time.perf_counter() - start, 3)
        self.assertEqual(desk.journal(), [])


if __name__ == "__main__":
    unittest.main()
