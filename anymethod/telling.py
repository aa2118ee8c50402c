"""The least error with which any method can tell a question, and what shows it in both directions."""

from anymethod.errors import NoWild
from anymethod.kinds import is_sequence, is_wild
from anymethod.programs import Column, solved
from anymethod.questions import check_same_effects
from anymethod.ratios import Ratio
from anymethod.weighing import subsets, uses_one_of


class Bound:
    """Combinations that show that the least error is at most the error. Nothing is checked here."""

    def __init__(self, error, weights):
        self.error = error
        if is_sequence(weights):
            self.weights = tuple([copied(item) for item in weights])
        else:
            self.weights = weights

    def __eq__(self, other):
        return isinstance(other, Bound) and self.error == other.error and self.weights == other.weights


class Open:
    """A world that shows that the least error is at least the error. Nothing is checked here."""

    def __init__(self, error, world):
        self.error = error
        self.world = tuple(world) if isinstance(world, list) else world

    def __eq__(self, other):
        return isinstance(other, Open) and self.error == other.error and self.world == other.world


class Found:
    """What is found about a question: its least error, combinations that reach it, and a world that needs it.

    If the error of every method is unbounded, the error and the combinations are None.
    """

    def __init__(self, error, combinations, world):
        self.error = error
        self.combinations = combinations
        self.world = world


def copied(item):
    """A copy of a dict; anything else as it is."""
    return {key: item[key] for key in item} if isinstance(item, dict) else item


def check_asked(series, question, wild):
    """Refuses a question of other effects, then a number of wild runs that is none."""
    check_same_effects(series, question)
    if not is_wild(wild):
        raise NoWild()


def found_about(series, question, wild):
    """The least cost behind the worst loss of twice as many runs as may be wild."""
    names = series.names()
    columns = {name: run_column(series[name], 0) for name in names}
    combinations = []
    error = None
    world = None
    for lost in subsets(names, 2 * wild):
        # A combination that is known already makes do for this set as well.
        if any([not uses_one_of(combination, lost) for combination in combinations]):
            continue
        left = [name for name in names if name not in lost]
        answer = solved([columns[name] for name in left], question.weights)
        if answer.amounts is None:
            return Found(None, None, answer.world)
        cost = question.at(answer.world)
        if error is None or cost > error:
            error = cost
            world = answer.world
        combinations.append({name: amount for name, amount in zip(left, answer.amounts) if amount != 0})
    return Found(error, combinations, world)


def run_column(run, reading):
    """The column whose limits are those that the reading sets to the answer of the run's question."""
    return Column(run.question.weights, run.slip + reading, run.slip - reading)


def least_error(series, question, *, wild=0):
    """The least error of all methods for the question; None if the error of every method is unbounded."""
    check_asked(series, question, wild)
    return found_about(series, question, wild).error


def is_less(error, other):
    """Whether a least error is less than another one; None is greater than every number."""
    return error is not None and (other is None or error < other)


def bound_of(series, question, *, wild=0):
    """The least error with combinations that reach it, whichever runs are wild; None if it is None."""
    check_asked(series, question, wild)
    found = found_about(series, question, wild)
    if found.error is None:
        return None
    return Bound(found.error, found.combinations)


def open_of(series, question, *, wild=0):
    """The least error with a world in which no method does better."""
    check_asked(series, question, wild)
    found = found_about(series, question, wild)
    return Open(found.error, found.world)


def twin_readings(series, question, *, wild=0):
    """Readings, and two worlds that both fit them and whose answers lie twice the least error (or 2) apart."""
    world = open_of(series, question, wild=wild).world
    return middle_readings(series, world, wild), world, opposite(world)


def opposite(world):
    return tuple([-number for number in world])


def middle_readings(series, world, wild):
    """Readings that a world and its opposite both fit, if at most twice as many runs as may be wild see it."""
    seeing = series.seen_by(world)
    readings = {}
    for name in series.names():
        answer = series[name].question.at(world)
        if name not in seeing:
            readings[name] = Ratio(0)
        elif name in seeing[:wild]:
            readings[name] = answer
        else:
            readings[name] = -answer
    return readings
