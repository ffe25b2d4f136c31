"""The exact chances of items, of pairs of items and of rows."""

from evenkeeps.checks import check_item, check_length, check_place, check_sampler
from evenkeeps.steps import Step, carried, standings, times
from evenkeeps.wholes import fraction

MOST_ROW_LENGTH = 8
ALONE = (1,)


def chance(sampler, length, item, place=None):
    """The chance of an item to be kept, or to lie in this place."""
    check_sampler(sampler)
    check_length(length)
    check_item(item, 1, length)
    check_place(place, sampler)
    row, below = tracked(sampler, length, item, length + 1)
    return fraction(sum(row) if place is None else row[place], below)


def pair_chance(sampler, length, item, later):
    """The chance that both items of a pair are kept."""
    check_sampler(sampler)
    check_length(length)
    check_item(item, 1, length)
    check_item(later, item + 1, length)
    row, below = tracked(sampler, length, item, later)
    return fraction(sum(row), below)


def tracked(sampler, length, item, later):
    """The row of the weights of an item, from the step `later` on of a pair, and what these are fractions of."""
    row = ALONE
    below = 1
    # What came before the item does not matter for it.
    for n in range(item, length + 1):
        step = Step(sampler, n)
        row = times(row, step_table(step, n, item, later))
        below = below * step.below
    return (row, below)


def step_table(step, n, item, later):
    """The table that leads the row of an item, or of a pair, over the step n."""
    if n == item:
        return step.new
    if n == later:
        return step.beside
    return step.singles if n < later else step.pairs


def chances(sampler, length):
    """The tuple of the chances of all items to be kept."""
    check_sampler(sampler)
    check_length(length)
    rows, below = list(standings(sampler, length))[-1]
    return tuple([fraction(sum(row), below) for row in rows])


def row_chances(sampler, length):
    """The ascending tuple of the pairs (row, chance) of all rows that can be, None counting as 0."""
    check_sampler(sampler)
    check_length(length, most=MOST_ROW_LENGTH)
    weights = {(None,) * sampler.places: 1}
    below = 1
    for n in range(1, length + 1):
        step = Step(sampler, n)
        weights = rows_after(weights, step, n)
        below = below * step.below
    return tuple([(row, fraction(weights[row], below)) for row in sorted(list(weights), key=order_of)])


def rows_after(weights, step, item):
    """The dict with the weight of each row after a step with this item, from that of each row before it."""
    out = {}
    for row, weight in weights.items():
        for moves, factor in step.weights.items():
            after = carried(row, moves, item)
            out[after] = out.get(after, 0) + weight * factor
    return out


def order_of(row):
    """What the order of rows goes by."""
    return tuple([0 if item is None else item for item in row])
