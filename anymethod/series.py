"""Series of runs, each run under a name."""

from anymethod.compared import lacking
from anymethod.errors import Full, NoName, NoQuestion, NoRun, NoSuch, NoWorld, Twice
from anymethod.kinds import is_effects, is_name
from anymethod.questions import check_same_effects
from anymethod.ratios import are_numbers
from anymethod.runs import Run

MOST_RUNS = 8


class Content:
    """The effects and the runs of a new series, as one value.

    An operator may not put runs into a series, so it hands over all of them when it makes one.
    """

    def __init__(self, effects, runs):
        self.effects = effects
        self.runs = runs


class Series:
    """At most eight runs over the same effects.

    The dict of the runs is never changed but replaced: so whoever took hold of it earlier still has what was there.
    """

    def __init__(self, effects):
        content = effects if isinstance(effects, Content) else empty_content(effects)
        self.effects = content.effects
        self.runs = content.runs

    def __eq__(self, other):
        return isinstance(other, Series) and self.effects == other.effects and self.runs == other.runs

    def __len__(self):
        return len(self.runs)

    def __iter__(self):
        raise TypeError("a series is not iterated over; names() has the names of its runs")

    def __contains__(self, name):
        return is_name(name) and name in self.runs

    def __getitem__(self, name):
        if name not in self:
            raise NoSuch(name)
        return self.runs[name]

    def __setitem__(self, name, run):
        if not is_name(name):
            raise NoName(name)
        if not isinstance(run, Run):
            raise NoRun("run")
        check_same_effects(self, run.question)
        if name not in self and len(self) == MOST_RUNS:
            raise Full(MOST_RUNS + 1)
        self.runs = {**self.runs, name: run}

    def drop(self, name):
        """Removes the run of this name."""
        if name not in self:
            raise NoSuch(name)
        self.runs = {other: self.runs[other] for other in self.runs if other != name}

    def names(self):
        return sorted([str(name) for name in self.runs])

    def copy(self):
        return Series(Content(self.effects, self.runs))

    def seen_by(self, world):
        """The names of the runs that see the world."""
        if not are_numbers(world, len(self.effects)):
            raise NoWorld()
        return [name for name in self.names() if self[name].sees(world)]

    def trying(self):
        """A context manager that gives the series back its runs if an error leaves the block."""
        return Trying(self)

    def __or__(self, other):
        if not isinstance(other, Series):
            return NotImplemented
        return Series(Content(self.effects, joined_runs(self, other)))

    def __ior__(self, other):
        if not isinstance(other, Series):
            return NotImplemented
        self.runs = joined_runs(self, other)
        return self

    def __le__(self, other):
        if not isinstance(other, Series):
            return NotImplemented
        return lacking(self, other) == []

    def __lt__(self, other):
        if not isinstance(other, Series):
            return NotImplemented
        return lacking(self, other) == [] and lacking(other, self) != []

    def __ge__(self, other):
        if not isinstance(other, Series):
            return NotImplemented
        return other <= self

    def __gt__(self, other):
        if not isinstance(other, Series):
            return NotImplemented
        return other < self


class Trying:
    """Holds what a series had when a block was entered."""

    def __init__(self, series):
        self.series = series
        self.before = series.runs

    def __enter__(self):
        self.before = self.series.runs
        return self.series

    def __exit__(self, kind, value, trace):
        if kind is not None:
            self.series.runs = self.before


def empty_content(effects):
    if not is_effects(effects):
        raise NoQuestion("effects")
    return Content(tuple(effects), {})


def joined_runs(one, other):
    """The runs of both series."""
    check_same_effects(one, other)
    for name in other.names():
        if name in one and one[name] != other[name]:
            raise Twice(name)
    runs = {**one.runs, **other.runs}
    if len(runs) > MOST_RUNS:
        raise Full(len(runs))
    return runs
