"""The ways through a program, with what has been drawn on them.

The bounds of a way are a dict with a triple of forms for each name drawn, in the order of drawing: the number drawn
is at least the first one and less than the second one, and it was drawn below the third one. The forms stay forms,
so that from some n on one list of ways can stand for all n.

For a join, the pair (m, n) stands in the place of n, and the places are those of both samples, one behind the other.
"""

from evenkeeps.forms import form_at
from evenkeeps.wholes import fraction


def paths(program, places, n):
    """The list of the pairs (bounds, moves) of all ways that have a chance at the step n, in the order of the text."""
    return follow(program, {}, tuple(range(places)), n)


def follow(program, bounds, moves, n):
    """The ways through these statements for one that has come so far."""
    if len(program) == 0:
        return [(bounds, moves)]
    row, body, otherwise = program[0]
    rest = program[1:]
    if row.kind == "draw":
        nought = (0,) * len(row.form)
        return follow(rest, {**bounds, row.name: (nought, row.form, row.form)}, moves, n)
    if row.kind != "if":
        return follow(rest, bounds, moved(row, moves), n)
    out = []
    for taken, narrowed in branches(row, bounds, n):
        chosen = body if taken else otherwise
        out.extend(follow(chosen + rest, narrowed, moves, n))
    return out


def branches(row, bounds, n):
    """The pairs (whether the test holds, bounds) of the ways that part at a test, the one on which it holds first."""
    if row.name == "n":
        return [(holds(row, n, n), bounds)]
    low, high, below = bounds[row.name]
    out = []
    for taken, since, until in cuts(row, low, high):
        first = larger(low, since, n)
        behind = smaller(high, until, n)
        if form_at(first, n) < form_at(behind, n):
            out.append((taken, {**bounds, row.name: (first, behind, below)}))
    return out


def holds(row, number, n):
    """Whether a test holds at the step n for the number that it asks about."""
    compared = form_at(row.form, n)
    return number < compared if row.sign == "<" else number == compared


def cuts(row, low, high):
    """The triples (whether the test holds, first form, form behind) into which a test cuts what lies between."""
    if row.sign == "<":
        return [(True, low, row.form), (False, row.form, high)]
    above = row.form[:-1] + (row.form[-1] + 1,)
    return [(True, row.form, above), (False, low, row.form), (False, above, high)]


def chance_of(bounds, n):
    """The chance of a way with these bounds at the step n."""
    above = 1
    below = 1
    for first, behind, form in bounds.values():
        above = above * (form_at(behind, n) - form_at(first, n))
        below = below * form_at(form, n)
    return fraction(above, below)


def larger(one, other, n):
    """The form that has the larger value."""
    return other if form_at(one, n) < form_at(other, n) else one


def smaller(one, other, n):
    """The form that has the smaller value."""
    return other if form_at(other, n) < form_at(one, n) else one


def moved(row, moves):
    """The moves behind a statement that moves things."""
    half = len(moves) // 2
    if row.kind == "exchange":
        return exchanged(moves, row.spots[0], row.spots[1])
    if row.kind == "other":
        return exchanged(moves, half + row.spots[0], half + row.spots[1])
    if row.kind == "take":
        into, out_of = row.spots
        return changed(moves, {into: moves[half + out_of], half + out_of: None})
    if row.kind == "empty":
        return changed(moves, {row.spots[0]: None})
    # The new item cannot lie in two places.
    gone = tuple([None if thing == "new" else thing for thing in moves])
    return changed(gone, {row.spots[0]: "new"})


def exchanged(moves, one, other):
    """The moves with two places changing sides."""
    return changed(moves, {one: moves[other], other: moves[one]})


def changed(moves, things):
    """The moves with other things in some places."""
    return tuple([things.get(place, thing) for place, thing in enumerate(moves)])
