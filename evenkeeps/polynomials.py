"""Polynomials of n: tuples of whole numbers, the factors of 1, n, n ** 2 and so on.

A trimmed one has no zeros behind the highest factor, but is (0,) for 0.
"""

from evenkeeps.wholes import common_divisor, digits_of, is_digits

MOST_POWER = 99


def trimmed(factors):
    """The factors without the zeros behind the highest one."""
    end = len(factors)
    while end > 1 and factors[end - 1] == 0:
        end = end - 1
    return factors[:end]


def scaled(factors, by):
    """The polynomial times a whole number."""
    return trimmed(tuple([factor * by for factor in factors]))


def total(one, other):
    """The sum of two polynomials."""
    length = max(len(one), len(other))
    left = one + (0,) * (length - len(one))
    right = other + (0,) * (length - len(other))
    return trimmed(tuple([a + b for a, b in zip(left, right)]))


def product(one, other):
    """The product of two polynomials."""
    out = []
    for power in range(len(one) + len(other) - 1):
        first = max(0, power - len(other) + 1)
        behind = min(power + 1, len(one))
        out.append(sum([one[k] * other[power - k] for k in range(first, behind)]))
    return trimmed(tuple(out))


def value_at(factors, at):
    """The value of the polynomial with the number `at` put in for n."""
    out = 0
    for factor in factors[::-1]:
        out = out * at + factor
    return out


def shifted(factors, by):
    """The polynomial with n + by put in for n."""
    out = (0,)
    for factor in factors[::-1]:
        out = total(product(out, (by, 1)), (factor,))
    return out


def content(factors):
    """The greatest common divisor of all factors, 0 if all of them are 0."""
    out = 0
    for factor in factors:
        out = common_divisor(out, factor)
    return out


def divided(factors, by):
    """The polynomial with each factor divided by a number that divides all of them."""
    return tuple([factor // by for factor in factors])


def primitive(factors):
    """The polynomial without the common divisor of its factors."""
    shared = content(factors)
    return factors if shared == 0 else divided(factors, shared)


def remainder(one, other):
    """Some multiple of what is left of one polynomial after its division by another one that is not 0.

    A multiple, because so the factors stay whole.
    """
    rest = one
    while len(rest) >= len(other) and rest != (0,):
        lifted = (0,) * (len(rest) - len(other)) + scaled(other, -rest[-1])
        rest = total(scaled(rest, other[-1]), lifted)
    return rest


def common_factor(one, other):
    """The greatest common divisor of two polynomials, one of which is not 0, primitive."""
    while other != (0,):
        # Without taking the divisors out, the factors would double their length in each round.
        one, other = other, primitive(remainder(one, other))
    return primitive(one)


def quotient(factors, by):
    """The polynomial divided by a primitive one that divides it."""
    out = [0 for k in range(len(factors) - len(by) + 1)]
    rest = factors
    while rest != (0,):
        power = len(rest) - len(by)
        out[power] = rest[-1] // by[-1]
        rest = total(rest, (0,) * power + scaled(by, -out[power]))
    return tuple(out)


def lowest_terms(above, below):
    """The two polynomials, the second one not 0, without any common divisor, the highest factor below above 0."""
    if trimmed(above) == (0,):
        return ((0,), (1,))
    shared = common_factor(trimmed(above), trimmed(below))
    top = quotient(trimmed(above), shared)
    bottom = quotient(trimmed(below), shared)
    number = content(top + bottom)
    if bottom[-1] < 0:
        number = -number
    return (divided(top, number), divided(bottom, number))


def term_text(factor, power):
    """A factor that is not 0 times a power of n, with its sign and blanks before it."""
    sign = " - " if factor < 0 else " + "
    size = digits_of(abs(factor))
    if power == 0:
        return f"{sign}{size}"
    letter = "n" if power == 1 else f"n^{power}"
    if size == "1":
        return f"{sign}{letter}"
    return f"{sign}{size}*{letter}"


def polynomial_text(factors):
    """The text of a trimmed polynomial."""
    powers = [power for power in range(len(factors)) if factors[power] != 0]
    text = "".join([term_text(factors[power], power) for power in powers[::-1]])
    if text == "":
        return "0"
    return f"-{text[3:]}" if text.startswith(" - ") else text[3:]


def read_power(letter):
    """The power of n that is written so ("" for the power 0), or None; other writings of a power may pass."""
    if letter == "":
        return 0
    if letter == "n":
        return 1
    if not letter.startswith("n^") or not is_digits(letter[2:]):
        return None
    power = int(letter[2:])
    return power if power <= MOST_POWER else None


def read_term(sign, word):
    """The pair (power, factor) of a term such as `2*n^3`, or None; other writings of a term may pass."""
    if sign not in ("+", "-"):
        return None
    size, star, letter = word.partition("*")
    if star == "" and word.startswith("n"):
        size, letter = "1", word
    power = read_power(letter)
    if power is None or not is_digits(size):
        return None
    return (power, -int(size) if sign == "-" else int(size))


def read_polynomial(text):
    """The polynomial with this text, or None; texts near those of `polynomial_text` may pass, too."""
    signed = f"- {text[1:]}" if text.startswith("-") else f"+ {text}"
    words = signed.split(" ")
    terms = [read_term(sign, word) for sign, word in zip(words[::2], words[1::2])]
    if len(words) % 2 == 1 or any([term is None for term in terms]):
        return None
    highest = max([power for power, factor in terms])
    factors = [sum([factor for power, factor in terms if power == at]) for at in range(highest + 1)]
    return trimmed(tuple(factors))
