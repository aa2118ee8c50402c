"""Runs: readings of a question with a limited error."""

from anymethod.errors import NoRun
from anymethod.questions import Question
from anymethod.ratios import as_ratio, is_number


class Run:
    """A run reads the answer of its question with an error of at most its slip. It never changes."""

    def __init__(self, question, slip):
        if not isinstance(question, Question):
            raise NoRun("question")
        if not is_number(slip) or slip < 0:
            raise NoRun("slip")
        self.question = question
        self.slip = as_ratio(slip)

    def __eq__(self, other):
        return isinstance(other, Run) and self.question == other.question and self.slip == other.slip

    def sees(self, world):
        """Whether 0 is not a reading that the run can give in the world."""
        return abs(self.question.at(world)) > self.slip
