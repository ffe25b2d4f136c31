"""Whole numbers and fractions of them."""


def is_whole(value):
    """Whether it is a whole number: True and False are ints for Python, but no numbers here."""
    return isinstance(value, int) and not isinstance(value, bool)


def is_between(value, low, high):
    """Whether it is a whole number from `low` to `high`."""
    return is_whole(value) and low <= value <= high


def common_divisor(one, other):
    """The greatest common divisor of two whole numbers, 0 for two zeros."""
    while other != 0:
        one, other = other, one % other
    return abs(one)


def common_multiple(numbers):
    """The least number from 1 on that all of these numbers divide."""
    out = 1
    for number in numbers:
        out = out // common_divisor(out, number) * number
    return out


def fraction(above, below):
    """The pair of numbers for above / below, without a common divisor and with the second one above 0."""
    shared = common_divisor(above, below)
    if below < 0:
        shared = -shared
    return (above // shared, below // shared)


def read_whole(text, low, high):
    """The number from `low` to `high` that is written so, or None."""
    for number in range(low, high + 1):
        if str(number) == text:
            return number
    return None


def is_digits(text):
    """Whether it consists of one or more of the ten digits."""
    return text.isascii() and text.isdigit()


def digits_of(number):
    """The decimal digits of a number from 1 on, also where `str` refuses because there are too many."""
    pieces = []
    while number > 0:
        number, last = divmod(number, 10 ** 64)
        pieces.append(str(last).zfill(64))
    return "".join(pieces[::-1]).lstrip("0")
