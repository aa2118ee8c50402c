"""Questions: combinations of effects."""

from anymethod.errors import NoQuestion, NoSuch, NoWorld, OtherEffects
from anymethod.kinds import is_effects
from anymethod.ratios import Ratio, are_numbers, as_ratios, is_number


class Question:
    """A weight for each of one to four effects. It never changes."""

    def __init__(self, effects, weights):
        if not is_effects(effects):
            raise NoQuestion("effects")
        if not are_numbers(weights, len(effects)):
            raise NoQuestion("weights")
        self.effects = tuple(effects)
        self.weights = as_ratios(weights)

    def at(self, world):
        """The answer of the question in a world, which has a number for each effect."""
        if not are_numbers(world, len(self.effects)):
            raise NoWorld()
        answer = Ratio(0)
        for weight, number in zip(self.weights, world):
            answer = answer + weight * number
        return answer

    def __eq__(self, other):
        return isinstance(other, Question) and self.effects == other.effects and self.weights == other.weights

    def __add__(self, other):
        if not isinstance(other, Question):
            return NotImplemented
        check_same_effects(self, other)
        return Question(self.effects, [one + two for one, two in zip(self.weights, other.weights)])

    def __sub__(self, other):
        if not isinstance(other, Question):
            return NotImplemented
        return self + -other

    def __neg__(self):
        return Question(self.effects, [-weight for weight in self.weights])

    def __mul__(self, other):
        if not is_number(other):
            return NotImplemented
        return Question(self.effects, [weight * other for weight in self.weights])

    def __rmul__(self, other):
        return self * other

    def over(self, number):
        """The question with all weights divided by the number."""
        return Question(self.effects, [weight.over(number) for weight in self.weights])


def check_same_effects(one, other):
    """Refuses two things with effects if these are not the same in the same order."""
    if one.effects != other.effects:
        raise OtherEffects()


def effect(effects, name):
    """The question that asks one of the effects alone."""
    if not is_effects(effects):
        raise NoQuestion("effects")
    if name not in effects:
        raise NoSuch(name)
    return Question(effects, [1 if other == name else 0 for other in effects])


def nothing(effects):
    """The question of zeros."""
    if not is_effects(effects):
        raise NoQuestion("effects")
    return Question(effects, [0] * len(effects))
