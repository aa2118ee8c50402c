"""What the readings of one experiment leave possible."""

from anymethod.errors import Clash, NoWild, NoWorld, Unbounded
from anymethod.kinds import is_wild
from anymethod.programs import solved
from anymethod.questions import nothing
from anymethod.ratios import are_numbers
from anymethod.telling import check_asked, run_column
from anymethod.weighing import check_readings, subsets


class Estimator:
    """The method that returns the middle of what its readings leave possible."""

    def __init__(self, series, question, *, wild=0):
        check_asked(series, question, wild)
        self.series = series.copy()
        self.question = question
        self.wild = wild

    def __call__(self, readings):
        return estimate(self.series, self.question, readings, wild=self.wild)


def check_read(series, readings, wild):
    """Refuses a number of wild runs that is none, then readings that lack a run."""
    if not is_wild(wild):
        raise NoWild()
    check_readings(readings, series.names())


def fits(series, world, readings, *, wild=0):
    """Whether all runs, but at most the wild ones, can read in the world what they read."""
    if not are_numbers(world, len(series.effects)):
        raise NoWorld()
    check_read(series, readings, wild)
    far = [name for name in series.names() if is_far(series[name], world, readings[name])]
    return len(far) <= wild


def is_far(run, world, reading):
    return abs(run.question.at(world) - reading) > run.slip


def best_answer(series, question, readings, names):
    """What the readings of these runs alone leave possible: the question's greatest answer and where it is.

    It is the Answer of the program: without amounts the question can have every answer, if a world fits; without a
    world none fits, and the amounts show it.
    """
    columns = [run_column(series[name], readings[name]) for name in names]
    return solved(columns, question.weights)


def all_but(series, lost):
    return [name for name in series.names() if name not in lost]


def fit_answer(series, readings, lost):
    """The answer for the question of zeros: it has a world that fits all runs but the lost ones, or none does."""
    return best_answer(series, nothing(series.effects), readings, all_but(series, lost))


def world_of(series, readings, *, wild=0):
    """A world that fits; None if none does."""
    check_read(series, readings, wild)
    for lost in subsets(series.names(), wild):
        world = fit_answer(series, readings, lost).world
        if world is not None:
            return world
    return None


def stretches(series, question, readings, *, wild=0):
    """The values that the question has at worlds that fit, as ascending pairs; (None, None) is every value."""
    check_asked(series, question, wild)
    check_read(series, readings, wild)
    pairs = []
    for lost in subsets(series.names(), wild):
        names = all_but(series, lost)
        best = best_answer(series, question, readings, names)
        if best.amounts is None and fit_answer(series, readings, lost).world is not None:
            return [(None, None)]
        if best.amounts is not None and best.world is not None:
            least = best_answer(series, -question, readings, names)
            pairs = with_stretch(pairs, question.at(least.world), question.at(best.world))
    return pairs


def with_stretch(pairs, low, high):
    """The pairs with one more; what overlaps or touches it becomes one with it."""
    before = [pair for pair in pairs if pair[1] < low]
    behind = [pair for pair in pairs if pair[0] > high]
    touched = pairs[len(before):len(pairs) - len(behind)]
    if touched != [] and touched[0][0] < low:
        low = touched[0][0]
    if touched != [] and touched[-1][1] > high:
        high = touched[-1][1]
    return [*before, (low, high), *behind]


def estimate(series, question, readings, *, wild=0):
    """The middle between the least and the greatest possible value of the question."""
    pairs = stretches(series, question, readings, wild=wild)
    if pairs == []:
        raise Clash()
    low = pairs[0][0]
    high = pairs[-1][1]
    if low is None:
        raise Unbounded()
    return (low + high).over(2)
