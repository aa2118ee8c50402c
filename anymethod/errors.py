"""The errors of the package: one class for each kind of failure, each with what it is about."""


class MethodError(ValueError):
    """What all errors of the package have in common; it is never raised itself."""

    def told(self):
        return "refused methoderror"


class NoRatio(MethodError):
    """No fraction: the top, the bottom, a division by zero, a power or a text is not as told."""

    def __init__(self, word):
        self.word = word

    def told(self):
        return "refused noratio"


class NoQuestion(MethodError):
    """The effects or the weights of a question are not as told."""

    def __init__(self, word):
        self.word = word

    def told(self):
        return "refused noquestion"


class OtherEffects(MethodError):
    """Two things that belong together do not have the same effects in the same order."""

    def told(self):
        return "refused othereffects"


class NoWorld(MethodError):
    """What should be a world of the effects is none."""

    def told(self):
        return "refused noworld"


class NoSuch(MethodError):
    """Nothing is there under this name."""

    def __init__(self, name):
        self.name = name

    def told(self):
        return "refused nosuch"


class NoRun(MethodError):
    """The question or the slip of a run is not as told, or what should be a run is none."""

    def __init__(self, word):
        self.word = word

    def told(self):
        return "refused norun"


class NoName(MethodError):
    """What should be a name is none."""

    def __init__(self, name):
        self.name = name

    def told(self):
        return "refused noname"


class Full(MethodError):
    """A series has, or would have, this number of runs, and that is too many."""

    def __init__(self, number):
        self.number = number

    def told(self):
        return "refused full"


class Twice(MethodError):
    """The name stands for two different things that should be put together."""

    def __init__(self, name):
        self.name = name

    def told(self):
        return "refused twice"


class NoStep(MethodError):
    """The item at this place of a sequence of steps is no step; -1 if there is no sequence."""

    def __init__(self, place):
        self.place = place

    def told(self):
        return "refused nostep"


class NoWild(MethodError):
    """The number of wild runs is none that is allowed."""

    def told(self):
        return "refused nowild"


class NoMethod(MethodError):
    """A method returned something that is not a number."""

    def told(self):
        return "refused nomethod"


class NoWeights(MethodError):
    """The weights of a linear method are not as told."""

    def __init__(self, word):
        self.word = word

    def told(self):
        return "refused noweights"


class NoReadings(MethodError):
    """There is no number for the run of this name."""

    def __init__(self, name):
        self.name = name

    def told(self):
        return "refused noreadings"


class Clash(MethodError):
    """No world fits the readings."""

    def told(self):
        return "refused clash"


class Unbounded(MethodError):
    """Every value is possible."""

    def told(self):
        return "refused unbounded"


class NoOffer(MethodError):
    """The row at this place of an offer is not as told; -1 if the rows as a whole are not."""

    def __init__(self, place, word):
        self.place = place
        self.word = word

    def told(self):
        return "refused nooffer"


class NoGoal(MethodError):
    """The question, the error or the wild runs of a goal are not as told."""

    def __init__(self, word):
        self.word = word

    def told(self):
        return "refused nogoal"


class NoGoals(MethodError):
    """The item at this place is no goal; -1 if the goals as a whole are not as told."""

    def __init__(self, place):
        self.place = place

    def told(self):
        return "refused nogoals"


class NoFactor(MethodError):
    """There is no proper factor for this effect; None if the factor belongs to no effect."""

    def __init__(self, effect):
        self.effect = effect

    def told(self):
        return "refused nofactor"


class NoTable(MethodError):
    """A table has no question for this effect."""

    def __init__(self, effect):
        self.effect = effect

    def told(self):
        return "refused notable"


class NoOrder(MethodError):
    """What should be another order of the effects is none."""

    def told(self):
        return "refused noorder"


class BadText(MethodError):
    """The text at this place cannot be read."""

    def __init__(self, place):
        self.place = place

    def told(self):
        return "refused badtext"


class BadLine(MethodError):
    """The line at this place was refused; the word is what its own error told."""

    def __init__(self, line, word):
        self.line = line
        self.word = word

    def told(self):
        return "refused badline"


class NoCommand(MethodError):
    """A line is no command: its first word (0) or what follows this word (1)."""

    def __init__(self, place):
        self.place = place

    def told(self):
        return "refused nocommand"


class NoUndo(MethodError):
    """No change stands that could be taken back."""

    def told(self):
        return "refused noundo"


class NoRedo(MethodError):
    """No change was taken back that could be made again."""

    def told(self):
        return "refused noredo"


class NoBudget(MethodError):
    """The parts of a budget, or the budgets or the offset of a noise, are not as told."""

    def __init__(self, word):
        self.word = word

    def told(self):
        return "refused nobudget"


class NoCourse(MethodError):
    """A course returned something else than a run that it may make, after this many runs."""

    def __init__(self, place):
        self.place = place

    def told(self):
        return "refused nocourse"


class NoErrors(MethodError):
    """The error of the run of this name is not as told; None if the errors as a whole are not."""

    def __init__(self, name):
        self.name = name

    def told(self):
        return "refused noerrors"


class NoCount(MethodError):
    """What should be a count is none."""

    def told(self):
        return "refused nocount"
