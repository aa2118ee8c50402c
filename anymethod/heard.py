"""What a series tells at all, and what it does not tell, however small the slips are."""

from anymethod.questions import check_same_effects, nothing
from anymethod.ratios import Ratio


def heard(series):
    """The questions, each with a first place of its own, whose sums of multiples are all that the series tells."""
    found = []
    for name in series.names():
        rest = less_heard(series[name].question, found)
        place = first_place(rest)
        if place is not None:
            rest = rest.over(rest.weights[place])
            found = [*[question - rest * question.weights[place] for question in found], rest]
    return [question for place in range(len(series.effects)) for question in found if first_place(question) == place]


def first_place(question):
    """The place of the first effect whose weight is not 0; None if there is none."""
    for place, weight in enumerate(question.weights):
        if weight != 0:
            return place
    return None


def less_heard(question, found):
    """The question without what the found questions make of it: it has the weight 0 at their first places."""
    rest = question
    for other in found:
        rest = rest - other * question.weights[first_place(other)]
    return rest


def unheard(series):
    """Worlds in which all runs answer 0, one for each effect that is no first place of what is heard."""
    found = heard(series)
    firsts = [first_place(question) for question in found]
    return [silent_world(series, found, at) for at in range(len(series.effects)) if at not in firsts]


def silent_world(series, found, at):
    """The world in which this effect is 1, and the first places make all runs answer 0."""
    world = [Ratio(1) if at == place else Ratio(0) for place in range(len(series.effects))]
    for question in found:
        world[first_place(question)] = -question.weights[at]
    return tuple(world)


def told_at_all(series, question):
    """Whether some combination of the series makes the question."""
    check_same_effects(series, question)
    return less_heard(question, heard(series)) == nothing(series.effects)
