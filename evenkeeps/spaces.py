"""Rows of whole numbers that stand for the space of all sums of their multiples."""

from evenkeeps.polynomials import primitive


def space_of(rows):
    """Independent rows for the same space: where one of them has its first number, the others have 0.

    There is only one choice of such rows, so that their numbers do not get longer than they have to be.
    """
    out = []
    for row in rows:
        rest = row
        for each in out:
            rest = without(rest, each)
        if any([number != 0 for number in rest]):
            out = [without(each, rest) for each in out] + [primitive(rest)]
    return out


def without(row, other):
    """A multiple of a row less one of another row, so that it is 0 where the other one has its first number."""
    lead = [at for at, number in enumerate(other) if number != 0][0]
    return primitive(tuple([a * other[lead] - b * row[lead] for a, b in zip(row, other)]))
