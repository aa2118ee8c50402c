"""Exact fractions, and what counts as a number."""

from math import gcd

from anymethod.errors import NoRatio
from anymethod.kinds import DIGITS, is_integer, is_sequence

MOST_DIGITS = 60
MOST_POWER = 20


class Ratio:
    """An exact fraction in lowest terms, with a bottom of at least 1. It never changes."""

    def __init__(self, top, bottom=1):
        if not is_integer(top):
            raise NoRatio("top")
        if not is_integer(bottom):
            raise NoRatio("bottom")
        if bottom == 0:
            raise NoRatio("zero")
        common = gcd(top, bottom)
        if bottom < 0:
            common = -common
        self.top = top // common
        self.bottom = bottom // common

    def __eq__(self, other):
        if isinstance(other, Ratio):
            return self.top == other.top and self.bottom == other.bottom
        return is_integer(other) and self.bottom == 1 and self.top == other

    def __lt__(self, other):
        if not is_number(other):
            return NotImplemented
        right = as_ratio(other)
        return self.top * right.bottom < right.top * self.bottom

    def __le__(self, other):
        if not is_number(other):
            return NotImplemented
        right = as_ratio(other)
        return self.top * right.bottom <= right.top * self.bottom

    def __gt__(self, other):
        if not is_number(other):
            return NotImplemented
        right = as_ratio(other)
        return self.top * right.bottom > right.top * self.bottom

    def __ge__(self, other):
        if not is_number(other):
            return NotImplemented
        right = as_ratio(other)
        return self.top * right.bottom >= right.top * self.bottom

    def __neg__(self):
        return Ratio(-self.top, self.bottom)

    def __pos__(self):
        return Ratio(self.top, self.bottom)

    def __abs__(self):
        return Ratio(abs(self.top), self.bottom)

    # An operand that is no number may know itself how it is multiplied (a
    # question does), so the operators leave it to that operand.

    def __add__(self, other):
        if not is_number(other):
            return NotImplemented
        right = as_ratio(other)
        return Ratio(self.top * right.bottom + right.top * self.bottom, self.bottom * right.bottom)

    def __radd__(self, other):
        return self + other

    def __sub__(self, other):
        if not is_number(other):
            return NotImplemented
        right = as_ratio(other)
        return Ratio(self.top * right.bottom - right.top * self.bottom, self.bottom * right.bottom)

    def __rsub__(self, other):
        if not is_number(other):
            return NotImplemented
        return as_ratio(other) - self

    def __mul__(self, other):
        if not is_number(other):
            return NotImplemented
        right = as_ratio(other)
        return Ratio(self.top * right.top, self.bottom * right.bottom)

    def __rmul__(self, other):
        return self * other

    def __floordiv__(self, other):
        if not is_number(other):
            return NotImplemented
        quotient = self.over(other)
        return quotient.top // quotient.bottom

    def __rfloordiv__(self, other):
        if not is_number(other):
            return NotImplemented
        return as_ratio(other) // self

    def __mod__(self, other):
        if not is_number(other):
            return NotImplemented
        return self - other * (self // other)

    def __rmod__(self, other):
        if not is_number(other):
            return NotImplemented
        left = as_ratio(other)
        return left - self * (left // self)

    def __pow__(self, other):
        return self.power(other)

    def over(self, number):
        """The exact quotient."""
        right = as_ratio(number)
        return Ratio(self.top * right.bottom, self.bottom * right.top)

    def power(self, k):
        """The power with an exponent from -20 to 20."""
        if not is_integer(k) or abs(k) > MOST_POWER:
            raise NoRatio("power")
        top, bottom = self.top, self.bottom
        if k < 0:
            top, bottom = bottom, top
        power_top = power_bottom = 1
        for _ in range(abs(k)):
            power_top = power_top * top
            power_bottom = power_bottom * bottom
        return Ratio(power_top, power_bottom)

    def text(self):
        if self.bottom == 1:
            return str(self.top)
        return f"{self.top}/{self.bottom}"

    @staticmethod
    def read(text):
        """The fraction whose text() is the text."""
        if not isinstance(text, str):
            raise NoRatio("text")
        before, slash, behind = text.partition("/")
        top = whole_number(before.removeprefix("-"))
        bottom = whole_number(behind) if slash == "/" else 1
        if top is None or bottom is None or bottom == 0:
            raise NoRatio("text")
        ratio = Ratio(-top if before.startswith("-") else top, bottom)
        # Leading zeros, a sign before 0 and terms that are not the lowest are
        # the text of no fraction: only comparing the texts refuses them all.
        if ratio.text() != text:
            raise NoRatio("text")
        return ratio


def whole_number(digits):
    """The integer of these digits; None if they are none, or more than may be read."""
    if not 1 <= len(digits) <= MOST_DIGITS:
        return None
    if not all([char in DIGITS for char in digits]):
        return None
    return int(digits)


def is_number(value):
    return isinstance(value, Ratio) or is_integer(value)


def as_ratio(number):
    if isinstance(number, Ratio):
        return number
    return Ratio(number)


def are_numbers(value, count):
    """Whether the value is a sequence of exactly so many numbers."""
    return is_sequence(value) and len(value) == count and all([is_number(item) for item in value])


def as_ratios(numbers):
    return tuple([as_ratio(number) for number in numbers])
