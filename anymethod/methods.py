"""Methods that are passed: linear ones, and what shows that a method errs."""

from anymethod.errors import NoMethod, NoSuch, NoWeights
from anymethod.kinds import is_name
from anymethod.questions import check_same_effects
from anymethod.ratios import Ratio, as_ratio, is_number
from anymethod.telling import opposite, twin_readings
from anymethod.weighing import check_readings, combination_cost, made_question, readings_total


class Combined:
    """A linear method: the sum of some readings, each multiplied by its weight."""

    def __init__(self, weights):
        if not isinstance(weights, dict):
            raise NoWeights("weights")
        if not all([is_name(name) for name in weights]):
            raise NoWeights("name")
        if not all([is_number(weights[name]) for name in weights]):
            raise NoWeights("number")
        self.weights = {name: as_ratio(weights[name]) for name in weights if weights[name] != 0}

    def __call__(self, readings):
        check_readings(readings, sorted([str(name) for name in self.weights]))
        return readings_total(self.weights, readings)


def fooled(series, question, method, *, wild=0):
    """Readings, and a world that they fit and in which the method errs by at least the least error."""
    readings, world, _ = twin_readings(series, question, wild=wild)
    # The method gets a copy, because it may change what it gets.
    number = method({name: readings[name] for name in readings})
    return readings, against(world, number)


def against(world, number):
    """Of a world in which the answer is not below 0 and its opposite, the one further from what a method told."""
    if not is_number(number):
        raise NoMethod()
    return world if number <= 0 else opposite(world)


def check_linear(series, question, method):
    check_same_effects(series, question)
    for name in sorted([str(name) for name in method.weights]):
        if name not in series:
            raise NoSuch(name)


def linear_error(series, question, method):
    """The error of a linear method without wild runs; None if it is unbounded."""
    check_linear(series, question, method)
    if made_question(series, method.weights) != question:
        return None
    return combination_cost(series, method.weights)


def linear_case(series, question, method):
    """Readings, and a world that they fit and in which the linear method errs by just its error (by 1 if unbounded)."""
    check_linear(series, question, method)
    surplus = made_question(series, method.weights) - question
    for at, weight in enumerate(surplus.weights):
        if weight != 0:
            return exact_case(series, at, weight)
    return greatest_case(series, method)


def exact_case(series, at, weight):
    """The world in which only one effect is not 0, and what all runs read there without an error."""
    world = tuple([Ratio(1).over(weight) if at == other else Ratio(0) for other in range(len(series.effects))])
    return {name: series[name].question.at(world) for name in series.names()}, world


def greatest_case(series, method):
    """The world of zeros, and readings whose errors all shift the method's number upwards as far as they can."""
    readings = {}
    for name in series.names():
        weight = method.weights.get(name, 0)
        slip = series[name].slip
        readings[name] = -slip if weight < 0 else slip
    return readings, tuple([Ratio(0)] * len(series.effects))
