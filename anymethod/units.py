"""Series and questions told in other units, by other effects, or in another order of them."""

from anymethod.errors import NoFactor, NoName, NoOrder, NoTable
from anymethod.kinds import is_name, is_sequence
from anymethod.questions import Question, check_same_effects, effect, nothing
from anymethod.ratios import is_number
from anymethod.runs import Run
from anymethod.series import Series
from anymethod.weighing import has_number


def asking(series, effects, questions):
    """A series over these effects in which each run asks the question of its name instead of its own."""
    made = Series(effects)
    for name in series.names():
        made[name] = Run(questions[name], series[name].slip)
    return made


def rewritten(series, table):
    """The series told by the effects of the table's questions."""
    effects = table_effects(series.effects, table)
    return asking(series, effects, {name: rewritten_question(series[name].question, table) for name in series.names()})


def rewritten_question(question, table):
    """The question told by the effects of the table's questions."""
    made = nothing(table_effects(question.effects, table))
    for name, weight in zip(question.effects, question.weights):
        made = made + table[name] * weight
    return made


def table_effects(effects, table):
    """The effects that the table's questions for these effects have in common."""
    for name in effects:
        if not isinstance(table, dict) or not isinstance(table.get(name), Question):
            raise NoTable(name)
    first = table[effects[0]]
    for name in effects:
        check_same_effects(first, table[name])
    return first.effects


def scaled(series, factors):
    """The series with the weights of each effect multiplied by its factor."""
    check_factors(series.effects, factors)
    questions = {name: scaled_question(series[name].question, factors) for name in series.names()}
    return asking(series, series.effects, questions)


def scaled_question(question, factors):
    """The question with the weight of each effect multiplied by its factor."""
    check_factors(question.effects, factors)
    weights = [weight * factors[name] for name, weight in zip(question.effects, question.weights)]
    return Question(question.effects, weights)


def check_factors(effects, factors):
    for name in effects:
        if not has_number(factors, name) or factors[name] == 0:
            raise NoFactor(name)


def slipped(series, factor):
    """The series with all slips multiplied by the factor."""
    if not is_number(factor) or factor < 0:
        raise NoFactor(None)
    made = Series(series.effects)
    for name in series.names():
        made[name] = Run(series[name].question, series[name].slip * factor)
    return made


def swapped(series, order):
    """The series with its effects in another order."""
    check_order(series.effects, order)
    return asking(series, order, {name: swapped_question(series[name].question, order) for name in series.names()})


def swapped_question(question, order):
    """The question with its effects in another order."""
    check_order(question.effects, order)
    weights = {name: weight for name, weight in zip(question.effects, question.weights)}
    return Question(order, [weights[name] for name in order])


def check_order(effects, order):
    # The effects differ from each other: with as many items, none can be there twice.
    if not is_sequence(order) or len(order) != len(effects) or not all([name in order for name in effects]):
        raise NoOrder()


def pinned(series, name, known):
    """A copy of the series in which the run of this name asks the known effect alone, with slip 0."""
    if not is_name(name):
        raise NoName(name)
    run = Run(effect(series.effects, known), 0)
    made = series.copy()
    made[name] = run
    return made
