"""What kind of thing an argument is: integers, sequences, names, effects and numbers of wild runs."""

LETTERS = "abcdefghijklmnopqrstuvwxyz"
DIGITS = "0123456789"
LONGEST_NAME = 8
MOST_EFFECTS = 4
MOST_WILD = 2
MOST_BOUGHT_WILD = 1


def is_integer(value):
    # To Python True and False are integers as well; here they are none.
    return isinstance(value, int) and not isinstance(value, bool)


def is_sequence(value):
    return isinstance(value, (list, tuple))


def is_name(value):
    if not isinstance(value, str) or not 1 <= len(value) <= LONGEST_NAME:
        return False
    return value[0] in LETTERS and all([char in LETTERS + DIGITS for char in value])


def are_names(value, most):
    """Whether the value is a sequence of at least one and at most so many names, each of them once."""
    if not is_sequence(value) or not 1 <= len(value) <= most:
        return False
    return all([is_name(item) for item in value]) and len(set(value)) == len(value)


def is_effects(value):
    return are_names(value, MOST_EFFECTS)


def is_wild(value):
    return is_integer(value) and 0 <= value <= MOST_WILD


def is_bought_wild(value):
    """Whether runs can be bought for so many wild ones."""
    return is_integer(value) and 0 <= value <= MOST_BOUGHT_WILD
