"""Combinations of the runs of a series: which there are, what they make and cost, and which runs they use."""

from anymethod.errors import NoReadings
from anymethod.questions import nothing
from anymethod.ratios import Ratio, is_number


def is_combination(series, value):
    if not isinstance(value, dict):
        return False
    return all([name in series and is_number(value[name]) for name in value])


def made_question(series, combination):
    """The question that is the sum of the runs' questions, each multiplied by its value."""
    question = nothing(series.effects)
    for name in combination:
        question = question + series[name].question * combination[name]
    return question


def combination_cost(series, combination):
    cost = Ratio(0)
    for name in combination:
        cost = cost + series[name].slip * abs(combination[name])
    return cost


def uses_one_of(combination, names):
    return any([name in combination and combination[name] != 0 for name in names])


def subsets(names, count):
    """All lists of so many of the names; the list of all of them, if there are fewer."""
    found = [[]]
    for name in names:
        found = found + [[*chosen, name] for chosen in found if len(chosen) < count]
    return [chosen for chosen in found if len(chosen) == min(count, len(names))]


def stand_any_loss(series, combinations, count):
    """Whether for each set of so many runs one of the combinations uses none of them."""
    for lost in subsets(series.names(), count):
        if all([uses_one_of(combination, lost) for combination in combinations]):
            return False
    return True


def has_number(table, name):
    return isinstance(table, dict) and name in table and is_number(table[name])


def check_readings(readings, names):
    """Refuses readings without a number for one of the names."""
    for name in names:
        if not has_number(readings, name):
            raise NoReadings(name)


def readings_total(combination, readings):
    """The sum of the readings, each multiplied by its value."""
    total = Ratio(0)
    for name in combination:
        total = total + combination[name] * readings[name]
    return total
