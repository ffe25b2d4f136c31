"""Fractions of two polynomials of n."""

from evenkeeps.errors import Gap, InvalidCount, InvalidText, NotARatio, ZeroBelow
from evenkeeps.polynomials import lowest_terms, polynomial_text, product, read_polynomial, scaled, shifted, total
from evenkeeps.polynomials import value_at
from evenkeeps.wholes import fraction, is_between, is_whole

MOST_EXPONENT = 6
MOST_LATER = 20


class Ratio:
    """A fraction of two polynomials of n with whole factors, in lowest terms."""

    def __init__(self, top, bottom=(1,)):
        if not is_factors(top):
            raise InvalidCount(top)
        if not is_factors(bottom):
            raise InvalidCount(bottom)
        if all([factor == 0 for factor in bottom]):
            raise ZeroBelow()
        above, below = lowest_terms(top, bottom)
        self.top = above
        self.bottom = below

    @staticmethod
    def read(text):
        """The ratio with this text."""
        if not isinstance(text, str):
            raise InvalidText(text)
        top, bottom = read_halves(text)
        if top is None or bottom is None or bottom == (0,):
            raise InvalidText(text)
        ratio = Ratio(top, bottom)
        # What was read may have been written in another way, for example not in lowest terms.
        if str(ratio) != text:
            raise InvalidText(text)
        return ratio

    def over(self, other):
        """The quotient of this ratio and another one."""
        right = as_ratio(other)
        return Ratio(product(self.top, right.bottom), product(self.bottom, right.top))

    def later(self, by):
        """The ratio with n + by put in for n."""
        if not is_between(by, 0, MOST_LATER):
            raise InvalidCount(by)
        return Ratio(shifted(self.top, by), shifted(self.bottom, by))

    def __call__(self, at):
        if not is_whole(at):
            raise InvalidCount(at)
        below = value_at(self.bottom, at)
        if below == 0:
            raise Gap(at)
        return fraction(value_at(self.top, at), below)

    def __add__(self, other):
        right = as_ratio(other)
        top = total(product(self.top, right.bottom), product(right.top, self.bottom))
        return Ratio(top, product(self.bottom, right.bottom))

    def __radd__(self, other):
        return as_ratio(other) + self

    def __sub__(self, other):
        return self + -as_ratio(other)

    def __rsub__(self, other):
        return as_ratio(other) - self

    def __mul__(self, other):
        right = as_ratio(other)
        return Ratio(product(self.top, right.top), product(self.bottom, right.bottom))

    def __rmul__(self, other):
        return as_ratio(other) * self

    def __neg__(self):
        return Ratio(scaled(self.top, -1), self.bottom)

    def __pow__(self, other):
        if not is_between(other, 0, MOST_EXPONENT):
            raise InvalidCount(other)
        out = Ratio((1,))
        for step in range(other):
            out = out * self
        return out

    def __bool__(self):
        return bool(self.top != (0,))

    def __eq__(self, other):
        return isinstance(other, Ratio) and self.top == other.top and self.bottom == other.bottom

    def __str__(self):
        return str(ratio_text(self.top, self.bottom))

    def __repr__(self):
        return f"Ratio({ratio_text(self.top, self.bottom)})"


def is_factors(value):
    """Whether it is a tuple of one or more whole numbers."""
    return isinstance(value, tuple) and len(value) > 0 and all([is_whole(factor) for factor in value])


def as_ratio(value):
    """The ratio that a Ratio or a whole number stands for."""
    if isinstance(value, Ratio):
        return value
    if not is_whole(value):
        raise NotARatio(value)
    return Ratio((value,))


def value_or_none(ratio, at):
    """The value of a ratio, None for a gap."""
    try:
        return ratio(at)
    except Gap:
        return None


def ratio_text(top, bottom):
    """The text of the ratio with these factors, which are in lowest terms."""
    if bottom == (1,):
        return polynomial_text(top)
    return f"({polynomial_text(top)})/({polynomial_text(bottom)})"


def read_halves(text):
    """The polynomials above and below the line, None for one that cannot be read."""
    if not text.startswith("("):
        return (read_polynomial(text), (1,))
    above, line, below = text.partition(")/(")
    if not below.endswith(")"):
        return (None, None)
    return (read_polynomial(above[1:]), read_polynomial(below[:-1]))
