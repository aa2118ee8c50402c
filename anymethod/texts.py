"""Texts of questions, runs and series, and what is read from them.

Reading takes more than is allowed and then compares the texts: only so all other forms of the same are refused.
"""

from anymethod.errors import BadText, NoQuestion, NoRatio
from anymethod.kinds import is_effects, is_name
from anymethod.questions import effect, nothing
from anymethod.ratios import Ratio
from anymethod.runs import Run
from anymethod.series import MOST_RUNS, Series

BEFORE_SLIP = " +- "
BEHIND_NAME = ": "


def question_text(question):
    text = ""
    for name, weight in zip(question.effects, question.weights):
        if weight != 0:
            text = text + sign_text(weight, text == "") + term_text(name, abs(weight))
    return "0" if text == "" else text


def sign_text(weight, is_first):
    """What stands before a term."""
    if is_first:
        return "-" if weight < 0 else ""
    return " - " if weight < 0 else " + "


def term_text(name, size):
    return name if size == 1 else f"{size.text()}*{name}"


def read_question(effects, text):
    """The question with these effects whose text this is."""
    check_read_from(effects, text)
    question = nothing(effects) if text == "0" else sum_of_terms(effects, text)
    if question_text(question) != text:
        raise BadText(0)
    return question


def check_read_from(effects, text):
    if not is_effects(effects):
        raise NoQuestion("effects")
    if not isinstance(text, str):
        raise BadText(0)


def sum_of_terms(effects, text):
    words = text.removeprefix("-").split(" ")
    signs = ["-" if text.startswith("-") else "+", *words[1::2]]
    terms = words[::2]
    # A sum of many terms could have more digits than a text may have.
    if len(terms) > len(effects):
        raise BadText(0)
    question = nothing(effects)
    for sign, term in zip(signs, terms):
        part = read_term(effects, term)
        question = question - part if sign == "-" else question + part
    return question


def read_term(effects, term):
    number, star, name = term.rpartition("*")
    if name not in effects:
        raise BadText(0)
    size = read_number(number) if star == "*" else 1
    return effect(effects, name) * size


def read_number(text):
    """The number whose text this is."""
    try:
        return Ratio.read(text)
    except NoRatio:
        raise BadText(0)


def run_text(run):
    return question_text(run.question) + BEFORE_SLIP + run.slip.text()


def read_run(effects, text):
    """The run with these effects whose text this is."""
    check_read_from(effects, text)
    asked, _, behind = text.partition(BEFORE_SLIP)
    question = read_question(effects, asked)
    slip = read_number(behind)
    if slip < 0:
        raise BadText(0)
    return Run(question, slip)


def series_text(series):
    """The lines of the series, ascending by name."""
    return [name + BEHIND_NAME + run_text(series[name]) for name in series.names()]


def read_series(effects, lines):
    """The series with these effects whose lines these are."""
    series = Series(effects)
    before = ""
    for place, line in enumerate(lines):
        try:
            name, run = read_line(effects, line)
        except BadText:
            raise BadText(place)
        if name <= before or place == MOST_RUNS:
            raise BadText(place)
        series[name] = run
        before = name
    return series


def read_line(effects, line):
    """The name and the run of a line."""
    if not isinstance(line, str):
        raise BadText(0)
    name, _, text = line.partition(BEHIND_NAME)
    if not is_name(name):
        raise BadText(0)
    return name, read_run(effects, text)
