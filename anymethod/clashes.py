"""Readings that contradict each other, and runs that must be wrong."""

from anymethod.errors import Clash
from anymethod.questions import nothing
from anymethod.readings import all_but, check_read, fit_answer, world_of
from anymethod.weighing import (
    combination_cost, is_combination, made_question, readings_total, stand_any_loss, subsets, uses_one_of,
)


def clash_of(series, readings, *, wild=0):
    """Combinations that show that no world fits; None if one does."""
    check_read(series, readings, wild)
    combinations = []
    for lost in subsets(series.names(), wild):
        # A combination that is known already contradicts without these runs, too.
        if any([not uses_one_of(combination, lost) for combination in combinations]):
            continue
        answer = fit_answer(series, readings, lost)
        if answer.world is not None:
            return None
        combinations.append(contradiction(all_but(series, lost), answer.amounts))
    return tuple(combinations)


def contradiction(names, amounts):
    # The amounts fall short of 0, a clash exceeds it.
    return {name: -amount for name, amount in zip(names, amounts) if amount != 0}


def check_clash(series, readings, candidate, *, wild=0):
    """Whether the candidate shows that no world fits."""
    check_read(series, readings, wild)
    if not isinstance(candidate, tuple):
        return False
    if not all([contradicts(series, readings, item) for item in candidate]):
        return False
    return stand_any_loss(series, candidate, wild)


def contradicts(series, readings, item):
    """Whether the item is a combination that reads something else than 0 although it asks nothing."""
    if not is_combination(series, item) or made_question(series, item) != nothing(series.effects):
        return False
    return readings_total(item, readings) > combination_cost(series, item)


def surely_wild(series, readings, *, wild=0):
    """The names of the runs that no fitting world explains."""
    if world_of(series, readings, wild=wild) is None:
        raise Clash()
    names = series.names()
    explained = []
    # Whoever looks for a world that explains a run does not lose this run: one at least is left.
    count = wild if wild < len(names) else len(names) - 1
    for lost in subsets(names, count):
        if fit_answer(series, readings, lost).world is not None:
            explained = explained + all_but(series, lost)
    return [name for name in names if name not in explained]
