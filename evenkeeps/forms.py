"""Forms: pairs (a, b) for a * n + b."""

MOST_FACTOR = 3
MOST_SUMMAND = 9


def form_text(form):
    """The text of a form."""
    factor, summand = form
    if factor == 0:
        return str(summand)
    letter = "n" if factor == 1 else f"{factor}*n"
    if summand == 0:
        return letter
    sign = "-" if summand < 0 else "+"
    return f"{letter} {sign} {abs(summand)}"


def read_form(text):
    """The form with this text, or None."""
    for factor in range(MOST_FACTOR + 1):
        for summand in range(-MOST_SUMMAND, MOST_SUMMAND + 1):
            if form_text((factor, summand)) == text:
                return (factor, summand)
    return None


def form_at(form, n):
    """The value of a form for a number n."""
    factor, summand = form
    return factor * n + summand
