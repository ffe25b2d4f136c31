"""What a sampler does from n = 19 on, when no two of its forms change their order any more."""

from evenkeeps.limits import SETTLED
from evenkeeps.paths import paths
from evenkeeps.polynomials import product, total
from evenkeeps.ratios import Ratio


def settled_paths(sampler):
    """The list of the pairs (bounds, moves) of all ways from n = 19 on."""
    # At n = 19 itself two forms can still be equal, so that some way is missing there.
    return paths(sampler.program, sampler.places, SETTLED + 1)


def ratio_of(parts):
    """The ratio of n that the chances of some ways add up to, each times a number: pairs (bounds, number)."""
    tops = {}
    for bounds, number in parts:
        top = (number,)
        for first, behind, below in bounds.values():
            top = product(top, (behind[1] - first[1], behind[0] - first[0]))
        forms = tuple(sorted([below for first, behind, below in bounds.values()]))
        tops[forms] = total(tops.get(forms, (0,)), top)
    out = Ratio((0,))
    for forms, top in tops.items():
        out = out + Ratio(top, product_of(forms))
    return out


def product_of(forms):
    """The polynomial that is the product of these forms."""
    out = (1,)
    for factor, summand in forms:
        out = product(out, (summand, factor))
    return out


def new_row(sampler):
    """The chances of the new item to lie in the places after the step n, ratios of n from 19 on."""
    found = settled_paths(sampler)
    return tuple([ratio_to(found, "new", place) for place in range(sampler.places)])


def later_table(sampler):
    """The step table of n + 1: for each place the row of the chances to go from there to the places, ratios of n."""
    found = settled_paths(sampler)
    places = list(range(sampler.places))
    return tuple([tuple([ratio_to(found, here, there).later(1) for there in places]) for here in places])


def ratio_to(found, thing, place):
    """The ratio that the chances of the ways that bring a thing to a place add up to."""
    return ratio_of([(bounds, 1) for bounds, moves in found if moves[place] == thing])


def led_back(table, column):
    """What the step table of n + 1 makes of a column, n + 1 being put in for n in it."""
    return tuple([row_times(row, one_later(column)) for row in table])


def one_later(ratios):
    """The ratios with n + 1 put in for n."""
    return tuple([ratio.later(1) for ratio in ratios])


def row_times(row, column):
    """The product of a row and a column of ratios."""
    return sum([left * right for left, right in zip(row, column)])
