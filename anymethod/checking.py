"""Whether something is a certificate for a least error."""

from anymethod.ratios import are_numbers, is_number
from anymethod.telling import Bound, Open, check_asked
from anymethod.weighing import combination_cost, is_combination, made_question, stand_any_loss


def check_bound(series, question, candidate, *, wild=0):
    """Whether the candidate is a Bound that shows that the least error is at most its error."""
    check_asked(series, question, wild)
    if not isinstance(candidate, Bound) or not is_number(candidate.error):
        return False
    if not isinstance(candidate.weights, tuple):
        return False
    if not all([reaches(series, question, item, candidate.error) for item in candidate.weights]):
        return False
    return stand_any_loss(series, candidate.weights, 2 * wild)


def reaches(series, question, item, error):
    """Whether the item is a combination that makes the question at a cost of at most the error."""
    if not is_combination(series, item):
        return False
    return made_question(series, item) == question and combination_cost(series, item) <= error


def check_open(series, question, candidate, *, wild=0):
    """Whether the candidate is an Open that shows that the least error is at least its error."""
    check_asked(series, question, wild)
    if not isinstance(candidate, Open) or not are_numbers(candidate.world, len(series.effects)):
        return False
    world = candidate.world
    error = candidate.error
    if error is None:
        return question.at(world) == 1 and len(not_silent(series, world)) <= 2 * wild
    if not is_number(error) or error < 0:
        return False
    return question.at(world) == error and len(series.seen_by(world)) <= 2 * wild


def not_silent(series, world):
    """The names of the runs whose question does not have exactly the answer 0 in the world."""
    return [name for name in series.names() if series[name].question.at(world) != 0]
