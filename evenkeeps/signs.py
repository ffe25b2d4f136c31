"""The signs of a polynomial at whole numbers, however far out they change."""

from evenkeeps.polynomials import scaled, shifted, total, value_at


def sign(number):
    """-1, 0 or 1."""
    return 0 if number == 0 else 1 if number > 0 else -1


def sign_at(factors, at):
    """The sign of the polynomial at a number."""
    return sign(value_at(factors, at))


def growth(factors):
    """The polynomial that tells by how much this one grows from n to n + 1."""
    return total(shifted(factors, 1), scaled(factors, -1))


def spells(factors):
    """The signs of a trimmed polynomial from 0 on: pairs (number, sign), one for each number where the sign changes."""
    rows = [factors]
    while len(rows[-1]) > 1:
        rows.append(growth(rows[-1]))
    out = [(0, sign(rows[-1][0]))]
    # Where the growth keeps its sign, the polynomial only rises or only falls.
    for row in rows[-2::-1]:
        out = spells_between(row, out)
    return out


def spells_between(factors, turns):
    """The spells of a polynomial, from those of its growth."""
    ends = [start for start, now in turns[1:]] + [None]
    out = []
    for (start, now), end in zip(turns, ends):
        at = start
        while at is not None:
            out.append((at, sign_at(factors, at)))
            at = next_change(factors, at, end)
    return [spell for k, spell in enumerate(out) if k == 0 or out[k - 1][1] != spell[1]]


def next_change(factors, at, end):
    """The first number behind `at` and before `end` (None: anywhere) with another sign, or None.

    Between these the polynomial only rises or only falls.
    """
    now = sign_at(factors, at)
    if end is None:
        if sign(factors[-1]) == now:
            return None
        high = at + 1
        while sign_at(factors, high) == now:
            high = at + 2 * (high - at)
    else:
        high = end - 1
        if sign_at(factors, high) == now:
            return None
    low = at
    while high - low > 1:
        middle = (low + high) // 2
        if sign_at(factors, middle) == now:
            low = middle
        else:
            high = middle
    return high


def last_zero(factors, since):
    """The last number from `since` on at which a polynomial that is not 0 has the value 0, or None."""
    found = spells(shifted(factors, since))
    ends = [since + found[k + 1][0] - 1 for k, (start, now) in enumerate(found) if now == 0]
    return ends[-1] if len(ends) > 0 else None


def first_with(factors, since, wanted):
    """The first number from `since` on at which the polynomial has the wanted sign, or None."""
    starts = [since + start for start, now in spells(shifted(factors, since)) if now == wanted]
    return starts[0] if len(starts) > 0 else None
