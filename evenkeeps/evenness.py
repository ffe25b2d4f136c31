"""Whether all items, all places, or all pairs of items have the same chances, for rows of every length.

All rows of weights after one step are fractions of the same number, so they are compared as they are.
"""

from evenkeeps.checks import check_place, check_sampler
from evenkeeps.horizons import last_for_items, last_for_pairs
from evenkeeps.steps import Step, items_after, standings, times


def is_even(sampler, place=None):
    """Whether for every length all items have the same chance to be kept, or to lie in this place."""
    return first_uneven(sampler, place) is None


def first_uneven(sampler, place=None):
    """None, or the triple (n, t, u) with the first length at which two items differ, and the first two of these."""
    check_sampler(sampler)
    check_place(place, sampler)
    last = last_for_items(sampler)
    for rows, below in standings(sampler, last):
        others = unlike_first([sum(row) if place is None else row[place] for row in rows])
        if len(others) > 0:
            # If any two differ, then one of them differs from the first item.
            return (len(rows), 1, others[0] + 1)
    return None


def unlike_first(numbers):
    """The list of the indexes at which another number than the first one stands."""
    return [at for at in range(len(numbers)) if numbers[at] != numbers[0]]


def is_even_in_places(sampler):
    """Whether for every length all items have the same chance in all places."""
    check_sampler(sampler)
    last = last_for_items(sampler)
    for rows, below in standings(sampler, last):
        if len(unlike_first([weight for row in rows for weight in row])) > 0:
            return False
    return True


def is_even_in_pairs(sampler):
    """Whether for every length all pairs of items have the same chance to be kept."""
    return first_uneven_pairs(sampler) is None


def first_uneven_pairs(sampler):
    """None, or the least triple (n, pair, other pair) with pairs that have unlike chances."""
    check_sampler(sampler)
    below = 1
    rows = []
    pairs = {}
    for n in range(1, last_for_pairs(sampler) + 1):
        step = Step(sampler, n)
        pairs = pairs_after(pairs, rows, step, n)
        rows = items_after(rows, step, below)
        below = below * step.below
        order = sorted(list(pairs))
        others = unlike_first([sum(pairs[pair]) for pair in order])
        if len(others) > 0:
            return (n, order[0], order[others[0]])
    return None


def pairs_after(pairs, rows, step, item):
    """The rows of the weights of all pairs after a step with this item, `rows` being those of the items before it."""
    out = {pair: times(pairs[pair], step.pairs) for pair in pairs}
    for at, row in enumerate(rows):
        out[(at + 1, item)] = times(row, step.beside)
    return out
