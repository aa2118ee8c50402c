"""Courses, which ask one run after the other, and why they do no better than a choice that is made at once."""

from anymethod.errors import NoCount, NoCourse, NoErrors, NoWorld
from anymethod.kinds import is_integer, is_name
from anymethod.methods import against
from anymethod.offers import offered_names
from anymethod.questions import check_same_effects
from anymethod.ratios import Ratio, are_numbers, is_number
from anymethod.telling import is_less, least_error, open_of


def played(offer, course, world, *, errors=None):
    """The pairs (name, reading) of the runs that the course makes in the world, in their order."""
    if not are_numbers(world, len(offer.effects)):
        raise NoWorld()
    check_errors(offer, errors)
    known = {} if errors is None else errors
    readings = {name: run.question.at(world) + known.get(name, 0) for name, run, _ in offer.rows}
    return made_pairs(course, readings)


def check_errors(offer, errors):
    if errors is None:
        return
    if not isinstance(errors, dict):
        raise NoErrors(None)
    for name, run, _ in offer.rows:
        if name in errors and not is_error_of(run, errors[name]):
            raise NoErrors(name)


def is_error_of(run, value):
    return is_number(value) and abs(value) <= run.slip


def made_pairs(course, readings):
    """The pairs of the runs that the course makes if the runs have these readings."""
    pairs = []
    while True:
        # The course gets a list of its own, because it may change what it gets.
        name = course(list(pairs))
        if name is None:
            return pairs
        if not is_name(name) or name not in readings or name in [made for made, _ in pairs]:
            raise NoCourse(len(pairs))
        pairs.append((name, readings[name]))


def bare_pairs(offer, course):
    return made_pairs(course, {name: Ratio(0) for name in offered_names(offer.rows)})


def bare(offer, course):
    """The names of the runs that the course makes if every reading is 0, in their order."""
    return [name for name, _ in bare_pairs(offer, course)]


def fooled_course(offer, question, course, method):
    """The pairs of a course, and a world that they fit and in which what the method tells is far off."""
    check_same_effects(offer, question)
    pairs = bare_pairs(offer, course)
    world = open_of(offer.series_of([name for name, _ in pairs]), question).world
    number = method(list(pairs))
    return pairs, against(world, number)


def best_of(offer, question, count):
    """The best choice of at most so many names, as a pair (error, names)."""
    check_same_effects(offer, question)
    if not is_integer(count) or count < 0:
        raise NoCount()
    best = (None, ())
    in_order = list(offer.choices())
    for _, names in in_order:
        if len(names) <= count:
            error = least_error(offer.series_of(names), question)
            # The choices come in their order: of equal ones, the first is ahead.
            if is_less(error, best[0]):
                best = (error, names)
    return best
