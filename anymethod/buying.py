"""The cheapest further runs for given goals, and what each step to a smaller error costs."""

from anymethod.errors import Full, NoGoals, NoWild, Twice
from anymethod.kinds import is_bought_wild, is_integer, is_sequence
from anymethod.offers import Goal, offered_names
from anymethod.questions import check_same_effects
from anymethod.ratios import are_numbers
from anymethod.telling import is_less, least_error, open_of

MOST_GOALS = 3
MOST_RUNS_BEFORE = 3


def cheapest(series, offer, goals):
    """The good choice that is ahead of all others, as a pair (total, names); None if no choice is good."""
    answer, _ = searched(series, offer, goals)
    return answer


def evidence(series, offer, goals):
    """Pairs (place, world) that show that no choice ahead of the answer is good."""
    _, found = searched(series, offer, goals)
    return tuple(found)


def searched(series, offer, goals):
    """The cheapest good choice, and the pairs that the choices ahead of it leave open."""
    check_goals(series, offer, goals)
    found = []
    pairs = list(offer.choices())
    for total, names in pairs:
        joined = series | offer.series_of(names)
        # What stood open for another choice is tried first, because that takes no program.
        if leaves_one_open(joined, goals, found):
            continue
        missed = missed_goal(joined, goals)
        if missed is None:
            return (total, names), found
        found.append(missed)
    return None, found


def missed_goal(series, goals):
    """A pair (place, world) that shows that the series does not meet a goal; None if it meets all of them."""
    for place, goal in enumerate(goals):
        shown = open_of(series, goal.question, wild=goal.wild)
        if shown.error is None:
            # Here the question answers 1. What answers 0 here does so in each multiple of the world, too.
            return place, tuple([number * (goal.error + 1) for number in shown.world])
        if shown.error > goal.error:
            return place, shown.world
    return None


def leaves_one_open(series, goals, found):
    return any([leaves_open(series, goals[place], world) for place, world in found])


def leaves_open(series, goal, world):
    """Whether the world shows that the series does not meet the goal."""
    return goal.question.at(world) > goal.error and len(series.seen_by(world)) <= 2 * goal.wild


def check_goals(series, offer, goals):
    if not is_sequence(goals) or not 1 <= len(goals) <= MOST_GOALS:
        raise NoGoals(-1)
    for place, goal in enumerate(goals):
        if not isinstance(goal, Goal):
            raise NoGoals(place)
    for thing in [offer, *[goal.question for goal in goals]]:
        check_same_effects(series, thing)
    check_room(series, offer)


def check_room(series, offer):
    """Refuses a series that has too many runs, then one that has a run under an offered name."""
    if len(series) > MOST_RUNS_BEFORE:
        raise Full(len(series))
    for name in offered_names(offer.rows):
        if name in series:
            raise Twice(name)


def check_cheapest(series, offer, goals, answer, found):
    """Whether the answer is a good choice, or None, and what was found shows that no choice ahead of it is good."""
    check_goals(series, offer, goals)
    if not is_evidence(series, goals, found):
        return False
    if answer is not None and not is_good_choice(series, offer, goals, answer):
        return False
    pairs = list(offer.choices())
    for total, names in pairs:
        # The choices come in their order: from the answer on, none is ahead of it.
        if answer is not None and names == answer[1]:
            return True
        if not leaves_one_open(series | offer.series_of(names), goals, found):
            return False
    return True


def is_evidence(series, goals, found):
    return isinstance(found, tuple) and all([is_open_pair(series, goals, item) for item in found])


def is_open_pair(series, goals, item):
    """Whether the item is a pair of the place of a goal and a world."""
    if not isinstance(item, tuple) or len(item) != 2:
        return False
    place, world = item
    return is_integer(place) and 0 <= place < len(goals) and are_numbers(world, len(series.effects))


def is_good_choice(series, offer, goals, answer):
    """Whether the answer is a pair of the total and the names of a good choice."""
    if not isinstance(answer, tuple) or len(answer) != 2:
        return False
    total, names = answer
    if not isinstance(names, tuple) or names != tuple([name for name in offered_names(offer.rows) if name in names]):
        return False
    if not is_integer(total) or total != offer.total(names):
        return False
    return missed_goal(series | offer.series_of(names), goals) is None


def prices(series, offer, question, *, wild=0):
    """The steps at which money makes the error smaller, as triples (total, names, error)."""
    check_same_effects(series, offer)
    check_same_effects(series, question)
    if not is_bought_wild(wild):
        raise NoWild()
    check_room(series, offer)
    steps = []
    pairs = list(offer.choices())
    for total, names in pairs:
        error = least_error(series | offer.series_of(names), question, wild=wild)
        if steps == [] or is_less(error, steps[-1][2]):
            steps.append((total, names, error))
    return steps
