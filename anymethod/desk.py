"""A desk, which holds a series, readings and a limit for wild runs, and answers lines of text."""

from anymethod.clashes import surely_wild
from anymethod.errors import BadLine, MethodError, NoCommand, NoName, NoRedo, NoSuch, NoUndo, NoWild
from anymethod.kinds import is_name, is_wild
from anymethod.readings import estimate, stretches
from anymethod.series import Series
from anymethod.telling import least_error
from anymethod.texts import read_number, read_question, read_run

DONE = "ok"
NONE = "none"


class Held:
    """What a desk holds behind a change, and the line of this change (None at the start)."""

    def __init__(self, series, readings, wild, line):
        self.series = series
        self.readings = readings
        self.wild = wild
        self.line = line


def two_parts(rest):
    """The name before the first blank, and what stands behind this blank."""
    name, blank, text = rest.partition(" ")
    if blank == "":
        raise NoCommand(1)
    return name, text


def put_run(held, rest):
    name, text = two_parts(rest)
    if not is_name(name):
        raise NoName(name)
    held.series[name] = read_run(held.series.effects, text)


def drop_run(held, rest):
    held.series.drop(rest)
    held.readings.pop(rest, None)


def put_reading(held, rest):
    name, text = two_parts(rest)
    if name not in held.series:
        raise NoSuch(name)
    held.readings[name] = read_number(text)


def put_wild(held, rest):
    if rest not in ("0", "1", "2"):
        raise NoCommand(1)
    held.wild = int(rest)


def told_error(held, rest):
    error = least_error(held.series, read_question(held.series.effects, rest), wild=held.wild)
    return "unbounded" if error is None else error.text()


def told_values(held, rest):
    question = read_question(held.series.effects, rest)
    pairs = stretches(held.series, question, held.readings, wild=held.wild)
    if pairs == []:
        return NONE
    if pairs[0][0] is None:
        return "all"
    return ", ".join([f"{low.text()}..{high.text()}" for low, high in pairs])


def told_estimate(held, rest):
    question = read_question(held.series.effects, rest)
    return estimate(held.series, question, held.readings, wild=held.wild).text()


def told_off(held):
    return told_names(surely_wild(held.series, held.readings, wild=held.wild))


def told_all_names(held):
    return told_names(held.series.names())


def told_names(names):
    return NONE if names == [] else ", ".join(names)


# What changes the desk, what asks it something, and what asks it without anything behind the command.
CHANGES = {"run": put_run, "drop": drop_run, "read": put_reading, "wild": put_wild}
QUESTIONS = {"ask": told_error, "values": told_values, "estimate": told_estimate}
BARE_QUESTIONS = {"off": told_off, "names": told_all_names}
STEPS = ("undo", "redo")


class Desk:
    """Answers lines of text about what it holds.

    What it holds behind a change is never changed again: so it can be taken back, and made again, as a whole.
    """

    def __init__(self, effects):
        self.now = Held(Series(effects), {}, 0, None)
        self.before = []
        self.undone = []

    def __call__(self, line):
        return self.tell(line)

    def tell(self, line):
        """Does what the line says, and returns the answer."""
        word, blank, rest = line.partition(" ")
        check_form(word, blank)
        if word in CHANGES:
            self.make(word, rest, line)
        elif word in QUESTIONS:
            question = QUESTIONS[word]
            return question(self.now, rest)
        elif word in BARE_QUESTIONS:
            bare_question = BARE_QUESTIONS[word]
            return bare_question(self.now)
        elif word == "undo":
            self.undo()
        else:
            self.redo()
        return DONE

    def make(self, word, rest, line):
        """Makes a change on a copy of what is held, so that an error leaves everything as it was."""
        held = Held(self.now.series.copy(), self.readings_now(), self.now.wild, line)
        action = CHANGES[word]
        action(held, rest)
        self.before.append(self.now)
        self.now = held
        self.undone = []

    def undo(self):
        if self.before == []:
            raise NoUndo()
        self.undone.append(self.now)
        self.now = self.before.pop()

    def redo(self):
        if self.undone == []:
            raise NoRedo()
        self.before.append(self.now)
        self.now = self.undone.pop()

    def tell_all(self, lines):
        """Tells all lines and returns their answers; if one of them is refused, nothing has happened."""
        now, before, undone = self.now, list(self.before), list(self.undone)
        answers = []
        for place, line in enumerate(lines):
            try:
                answers.append(self.tell(line))
            except MethodError as error:
                self.now, self.before, self.undone = now, before, undone
                raise BadLine(place, error.told()) from error
        return answers

    def series_now(self):
        return self.now.series.copy()

    def readings_now(self):
        return {name: self.now.readings[name] for name in self.now.readings}

    @property
    def limit(self):
        """The number of wild runs that the answers allow."""
        return self.now.wild

    @limit.setter
    def limit(self, value):
        if not is_wild(value):
            raise NoWild()
        self.tell(f"wild {value}")

    def journal(self):
        """The lines of the changes that stand, in their order."""
        return [held.line for held in [*self.before, self.now] if held.line is not None]


def check_form(word, blank):
    """Refuses what is no command, then a command with a blank too many or too few behind it."""
    if word in CHANGES or word in QUESTIONS:
        wrong = blank == ""
    elif word in BARE_QUESTIONS or word in STEPS:
        wrong = blank != ""
    else:
        raise NoCommand(0)
    if wrong:
        raise NoCommand(1)


def allow(desk, number):
    """Sets the limit of the desk, and returns the one that stood before."""
    before = desk.limit
    desk.limit = number
    return before
