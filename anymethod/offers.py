"""Runs that can be bought, the choices of them, and what they are bought for."""

from anymethod.errors import NoGoal, NoOffer, NoQuestion, NoSuch
from anymethod.kinds import is_bought_wild, is_effects, is_integer, is_name, is_sequence
from anymethod.questions import Question
from anymethod.ratios import as_ratio, is_number
from anymethod.runs import Run
from anymethod.series import Series

MOST_ROWS = 5
MOST_COST = 1000000000


class Offer:
    """One to five runs with the same effects, each under a name and at a cost. It never changes."""

    def __init__(self, effects, rows):
        if not is_effects(effects):
            raise NoQuestion("effects")
        if not is_sequence(rows) or not 1 <= len(rows) <= MOST_ROWS:
            raise NoOffer(-1, "rows")
        self.effects = tuple(effects)
        known = {}
        for place, row in enumerate(rows):
            word = row_fault(row, known, self.effects)
            if word is not None:
                raise NoOffer(place, word)
            known[row[0]] = tuple(row)
        self.rows = tuple([known[name] for name in sorted([str(name) for name in known])])

    def __eq__(self, other):
        return isinstance(other, Offer) and self.effects == other.effects and self.rows == other.rows

    def total(self, names):
        """What the runs of these names cost together."""
        return sum([row[2] for row in chosen_rows(self.rows, names)])

    def series_of(self, names):
        """A series with the runs of these names."""
        series = Series(self.effects)
        for row in chosen_rows(self.rows, names):
            series[row[0]] = row[1]
        return series

    def choices(self):
        """All choices as pairs (total, names), those ahead first."""
        yield from ordered_choices(self.rows)


class Goal:
    """A question that should be told with at most this error, whichever of the runs are wild. It never changes."""

    def __init__(self, question, error, *, wild=0):
        if not isinstance(question, Question):
            raise NoGoal("question")
        if not is_number(error) or error < 0:
            raise NoGoal("error")
        if not is_bought_wild(wild):
            raise NoGoal("wild")
        self.question = question
        self.error = as_ratio(error)
        self.wild = wild

    def __eq__(self, other):
        return (
            isinstance(other, Goal) and self.question == other.question
            and self.error == other.error and self.wild == other.wild
        )


def row_fault(row, known, effects):
    """What is wrong with a row, in a word, if the known names stand already; None if nothing is."""
    if not is_sequence(row) or len(row) != 3:
        return "row"
    name, run, cost = row
    if not is_name(name):
        return "name"
    if name in known:
        return "twice"
    if not isinstance(run, Run):
        return "run"
    if run.question.effects != effects:
        return "effects"
    if not is_integer(cost) or not 0 <= cost <= MOST_COST:
        return "cost"
    return None


def offered_names(rows):
    return [row[0] for row in rows]


def chosen_rows(rows, names):
    """The rows of these names, each of them once."""
    offered = offered_names(rows)
    for name in names:
        if name not in offered:
            raise NoSuch(name)
    return [row for row in rows if row[0] in names]


def ordered_choices(rows):
    """All choices as pairs (total, names): by total, then by the number of names, then by the names."""
    found = choices_by_names(rows)
    totals = sorted(set([int(total) for total, _ in found]))
    return [pair for total in totals for pair in found if pair[0] == total]


def choices_by_names(rows):
    """All choices as pairs (total, names): by the number of names, then by the names."""
    found = []
    level = [(0, ())]
    while level != []:
        found = found + level
        # Those with one name more are in order again, because the rows are ascending.
        level = [
            (total + cost, (*names, name))
            for total, names in level for name, _, cost in rows if names == () or names[-1] < name
        ]
    return found
