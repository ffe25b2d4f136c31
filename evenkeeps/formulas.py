"""Whether the chance of each item follows a formula, for rows of every length."""

from evenkeeps.checks import check_length, check_sampler
from evenkeeps.horizons import last_for_formula
from evenkeeps.ratios import as_ratio, value_or_none
from evenkeeps.signs import first_with
from evenkeeps.steps import standings

MOST_SINCE = 20


def follows(sampler, by_item, by_length, since=1):
    """Whether from the length `since` on each item is kept with the chance that the formula tells."""
    return first_off(sampler, by_item, by_length, since) is None


def first_off(sampler, by_item, by_length, since=1):
    """None, or the least pair (n, t) for which the chance is not as told, or none is told."""
    check_sampler(sampler)
    item_share = as_ratio(by_item)
    length_share = as_ratio(by_length)
    check_length(since, most=MOST_SINCE)
    last = last_for_formula(sampler, item_share, length_share)
    told = []
    for rows, below in standings(sampler, last):
        n = len(rows)
        told.append(value_or_none(item_share, n))
        if n >= since:
            items = items_off(rows, below, told, value_or_none(length_share, n))
            if len(items) > 0:
                return (n, items[0])
    return first_gap(item_share, length_share, last + 1)


def items_off(rows, below, told, share):
    """The list of the items whose chance is not as told; `told` and `share` are the values of the two ratios."""
    return [at + 1 for at, row in enumerate(rows) if not is_told(sum(row), below, told[at], share)]


def is_told(weight, below, one, other):
    """Whether weight / below is the product of two fractions, none of which may be None."""
    if one is None or other is None:
        return False
    return weight * one[1] * other[1] == below * one[0] * other[0]


def first_gap(item_share, length_share, since):
    """The least pair (n, t) for which one of the ratios has a gap at a number from `since` on, or None."""
    item = first_with(item_share.bottom, since, 0)
    length = first_with(length_share.bottom, since, 0)
    gaps = [(at, t) for at, t in ((item, item), (length, 1)) if at is not None]
    return min(gaps) if len(gaps) > 0 else None
