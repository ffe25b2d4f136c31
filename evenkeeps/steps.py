"""What a sampler does at one step, as weights: whole numbers, each of them a chance times one common number.

A group is a tuple of one or two places, or of one or two things that lie in places before the step; the new item is
the thing "new", anything else is called by the number of its place. For two things it does not matter which of them
lies in which of two places.
"""

from evenkeeps.paths import chance_of, paths
from evenkeeps.wholes import common_multiple


class Step:
    """The step n of a sampler.

    `below` is the weight of all moves together, `weights` has the one of each moves that are possible. The others are
    columns: `new` and `beside` tell how the new item comes, alone and with an item that lies in a place; `singles`
    and `pairs` tell how items that lie in places go on.
    """

    def __init__(self, sampler, n):
        parts = [(chance_of(bounds, n), moves) for bounds, moves in paths(sampler.program, sampler.places, n)]
        self.below = common_multiple([below for (above, below), moves in parts])
        self.weights = gathered(parts, self.below)
        alone = single_groups(sampler.places)
        both = pair_groups(sampler.places)
        self.new = columns(self.weights, [("new",)], alone)
        self.beside = columns(self.weights, [(place, "new") for place in range(sampler.places)], both)
        self.singles = columns(self.weights, alone, alone)
        self.pairs = columns(self.weights, both, both)


def gathered(parts, whole):
    """The dict with the weight of each moves, for pairs (chance, moves); all weights together are `whole`."""
    out = {}
    for (above, below), moves in parts:
        out[moves] = out.get(moves, 0) + above * (whole // below)
    return out


def single_groups(places):
    """The groups of one place."""
    return [(place,) for place in range(places)]


def pair_groups(places):
    """The groups of two places."""
    return [(one, other) for one in range(places) for other in range(one + 1, places)]


def columns(weights, things, spots):
    """For each group of places the tuple with the weight of each group of things to come there."""
    return tuple([tuple([weight_of(weights, group, places) for group in things]) for places in spots])


def weight_of(weights, things, places):
    """The weight of all moves that bring these things to these places."""
    out = 0
    for moves, weight in weights.items():
        if set([moves[place] for place in places]) == set(things):
            out = out + weight
    return out


def times(row, table):
    """The row that the columns of a table make of a row."""
    return tuple([sum([weight * factor for weight, factor in zip(row, column)]) for column in table])


def items_after(rows, step, below):
    """The rows of the weights of all items after a step, `below` being the weight of everything before it."""
    return [times(row, step.singles) for row in rows] + [times((below,), step.new)]


def standings(sampler, last):
    """Yields a pair for each length up to the last one: the rows of the weights of all items, and the whole weight."""
    below = 1
    rows = []
    for n in range(1, last + 1):
        step = Step(sampler, n)
        rows = items_after(rows, step, below)
        below = below * step.below
        yield (rows, below)


def carried(row, moves, item):
    """What lies in the places after these moves, if the new item is this one."""
    return tuple([item if thing == "new" else None if thing is None else row[thing] for thing in moves])
