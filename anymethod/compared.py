"""Whether one series is as good as another one for every question, and which runs are needless."""

from anymethod.questions import check_same_effects
from anymethod.telling import bound_of, least_error


def lacking(one, other):
    """The names of the runs of one series whose question the other one does not tell within the run's slip."""
    check_same_effects(one, other)
    return [name for name in one.names() if not tells_within_slip(other, one[name])]


def tells_within_slip(series, run):
    error = least_error(series, run.question)
    return error is not None and error <= run.slip


def alike(one, other):
    """Whether each of the two series is at least as good as the other one for every question."""
    return lacking(one, other) == [] and lacking(other, one) == []


def cover(one, other):
    """For each run of one series a bound of the other one within the run's slip; None if a run is lacking."""
    if lacking(one, other) != []:
        return None
    return {name: bound_of(other, one[name].question) for name in one.names()}


def needless(series):
    """The names of the runs that the other runs tell within their slip, each of them looked at alone."""
    return [name for name in series.names() if is_needless(series, name)]


def is_needless(series, name):
    others = series.copy()
    others.drop(name)
    return tells_within_slip(others, series[name])


def trimmed(series):
    """A series that is as good, without needless runs."""
    left = series.copy()
    for name in reversed(list(series.names())):
        if is_needless(left, name):
            left.drop(name)
    return left
