"""Forms: pairs (a, b) for a * n + b, and join forms: triples (a, b, c) for a * m + b * n + c."""

MOST_FACTOR = 3
MOST_SUMMAND = 9


def letter_part(factor, letter):
    """The text of a letter with its factor, which is not 0."""
    return letter if factor == 1 else f"{factor}*{letter}"


def with_summand(letters, summand):
    """The text of a form, from that of its letters ("" for none) and the number behind them."""
    if letters == "":
        return str(summand)
    if summand == 0:
        return letters
    sign = "-" if summand < 0 else "+"
    return f"{letters} {sign} {abs(summand)}"


def form_text(form):
    """The text of a form."""
    factor, summand = form
    return with_summand("" if factor == 0 else letter_part(factor, "n"), summand)


def all_forms():
    """The list of all forms."""
    summands = list(range(-MOST_SUMMAND, MOST_SUMMAND + 1))
    return [(factor, summand) for factor in range(MOST_FACTOR + 1) for summand in summands]


def read_form(text):
    """The form with this text, or None."""
    for form in all_forms():
        if form_text(form) == text:
            return form
    return None


def join_form_text(form):
    """The text of a join form."""
    first, second, summand = form
    parts = [letter_part(factor, letter) for factor, letter in ((first, "m"), (second, "n")) if factor != 0]
    return with_summand(" + ".join(parts), summand)


def read_join_form(text):
    """The join form with this text, or None."""
    for first in range(MOST_FACTOR + 1):
        for second, summand in all_forms():
            if join_form_text((first, second, summand)) == text:
                return (first, second, summand)
    return None


def form_at(form, at):
    """The value of a form for a number n, or that of a join form for a pair (m, n)."""
    if len(form) == 2:
        return form[0] * at + form[1]
    return form[0] * at[0] + form[1] * at[1] + form[2]
