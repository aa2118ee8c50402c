"""Changes of a series by a sequence of steps."""

from anymethod.errors import MethodError, NoStep
from anymethod.kinds import is_sequence
from anymethod.series import Series

STEP_LENGTHS = {"put": 3, "drop": 2, "join": 2, "call": 2, "block": 2, "attempt": 2}


class Tally:
    """Counts the attempts that failed. It stands outside of the series, so that no block takes it back."""

    def __init__(self):
        self.failed = 0


def change(series, steps):
    """Does the steps, all of them or none, and returns how many attempts were taken back."""
    if not is_sequence(steps):
        raise NoStep(-1)
    tally = Tally()
    do_block(series, steps, tally)
    return tally.failed


def do_block(series, steps, tally):
    with series.trying():
        for place, step in enumerate(steps):
            if not is_step(step):
                raise NoStep(place)
            do_step(series, step, tally)


def is_step(step):
    if not is_sequence(step) or len(step) == 0 or not isinstance(step[0], str):
        return False
    if STEP_LENGTHS.get(step[0]) != len(step):
        return False
    if step[0] == "join":
        return isinstance(step[1], Series)
    return step[0] not in ("block", "attempt") or is_sequence(step[1])


def do_step(series, step, tally):
    word = step[0]
    if word == "put":
        series[step[1]] = step[2]
    elif word == "drop":
        series.drop(step[1])
    elif word == "join":
        series |= step[1]
    elif word == "call":
        action = step[1]
        action(series)
    elif word == "block":
        do_block(series, step[1], tally)
    else:
        do_attempt(series, step[1], tally)


def do_attempt(series, steps, tally):
    try:
        do_block(series, steps, tally)
    except MethodError:
        tally.failed += 1
