"""Runs whose errors are limited together and shifted together, and the least error with such a noise."""

from anymethod.errors import NoBudget, NoSuch, NoWorld
from anymethod.kinds import are_names, is_sequence
from anymethod.methods import against
from anymethod.noises import are_let, are_let_with, found_with, greatest_sum, price_with
from anymethod.questions import check_same_effects
from anymethod.ratios import Ratio, are_numbers, as_ratio, is_number
from anymethod.telling import copied
from anymethod.weighing import check_readings, is_combination, made_question

MOST_MEMBERS = 8
MOST_BUDGETS = 3


class Budget:
    """Limits the errors of some runs together. It never changes."""

    def __init__(self, members, most):
        if not are_names(members, MOST_MEMBERS):
            raise NoBudget("members")
        if not is_number(most) or most < 0:
            raise NoBudget("most")
        self.members = tuple(sorted([str(name) for name in members]))
        self.most = as_ratio(most)

    def __eq__(self, other):
        return isinstance(other, Budget) and self.members == other.members and self.most == other.most


class NoiseBound:
    """A combination, and prices of the budgets, that show that the least error is at most the error.

    Nothing is checked here.
    """

    def __init__(self, error, weights, prices):
        self.error = error
        self.weights = copied(weights)
        self.prices = tuple(prices) if isinstance(prices, list) else prices

    def __eq__(self, other):
        return (
            isinstance(other, NoiseBound) and self.error == other.error
            and self.weights == other.weights and self.prices == other.prices
        )


class NoiseOpen:
    """A world and an offset that show that the least error is at least the error. Nothing is checked here."""

    def __init__(self, error, world, offset):
        self.error = error
        self.world = tuple(world) if isinstance(world, list) else world
        self.offset = offset

    def __eq__(self, other):
        return (
            isinstance(other, NoiseOpen) and self.error == other.error
            and self.world == other.world and self.offset == other.offset
        )


class Noise:
    """Tells which errors the runs of a series have together. It never changes."""

    def __init__(self, series, *, budgets=(), offset=0):
        check_budgets(series, budgets)
        if not is_number(offset) or offset < 0:
            raise NoBudget("offset")
        self.series = series.copy()
        self.effects = series.effects
        self.budgets = tuple(budgets)
        self.offset = as_ratio(offset)

    def lets(self, errors):
        """Whether the runs can have these errors together."""
        check_readings(errors, self.series.names())
        return are_let(self, errors)

    def fits(self, world, readings):
        """Whether the runs can have these readings in the world."""
        if not are_numbers(world, len(self.effects)):
            raise NoWorld()
        names = self.series.names()
        check_readings(readings, names)
        return are_let(self, {name: readings[name] - self.series[name].question.at(world) for name in names})

    def price(self, method):
        """The error of a linear method for the question that its weights make."""
        for name in sorted([str(name) for name in method.weights]):
            if name not in self.series:
                raise NoSuch(name)
        return greatest_sum(self, method.weights)

    def least_error(self, question):
        """The least error of all methods for the question; None if the error of every method is unbounded."""
        return found_with(self, question).error

    def fooled(self, question, method):
        """Readings of 0, and a world that they fit and in which the method errs by at least the least error."""
        world = found_with(self, question).world
        names = self.series.names()
        # The method gets a dict of its own, because it may change what it gets.
        number = method({name: Ratio(0) for name in names})
        return {name: Ratio(0) for name in names}, against(world, number)

    def bound(self, question):
        """The least error with a combination that reaches it; None if it is None."""
        found = found_with(self, question)
        if found.error is None:
            return None
        return NoiseBound(found.error, found.weights, found.prices)

    def opened(self, question):
        """The least error with a world in which no method does better."""
        found = found_with(self, question)
        return NoiseOpen(found.error, found.world, found.shift)


def check_budgets(series, budgets):
    if not is_sequence(budgets) or len(budgets) > MOST_BUDGETS:
        raise NoBudget("budgets")
    if not all([isinstance(budget, Budget) for budget in budgets]):
        raise NoBudget("budgets")
    for budget in budgets:
        for name in budget.members:
            if name not in series:
                raise NoSuch(name)


def check_noise_bound(noise, question, candidate):
    """Whether the candidate is a NoiseBound that shows that the least error is at most its error."""
    check_same_effects(noise, question)
    if not isinstance(candidate, NoiseBound) or not is_number(candidate.error):
        return False
    weights, prices = candidate.weights, candidate.prices
    if not is_combination(noise.series, weights) or made_question(noise.series, weights) != question:
        return False
    if not isinstance(prices, tuple) or not are_numbers(prices, len(noise.budgets)):
        return False
    if any([price < 0 for price in prices]):
        return False
    return price_with(noise, weights, prices) <= candidate.error


def check_noise_open(noise, question, candidate):
    """Whether the candidate is a NoiseOpen that shows that the least error is at least its error."""
    check_same_effects(noise, question)
    if not isinstance(candidate, NoiseOpen) or not are_numbers(candidate.world, len(noise.effects)):
        return False
    if not is_number(candidate.offset) or abs(candidate.offset) > noise.offset:
        return False
    error, world = candidate.error, candidate.world
    answers = {name: noise.series[name].question.at(world) for name in noise.series.names()}
    if error is None:
        return question.at(world) == 1 and all([answers[name] == 0 for name in answers])
    if not is_number(error) or error < 0 or question.at(world) != error:
        return False
    return are_let_with(noise, answers, candidate.offset)
