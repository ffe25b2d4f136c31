"""What a sampler does from n = 19 on, when no two of its forms change their order any more."""

from evenkeeps.limits import SETTLED
from evenkeeps.paths import paths
from evenkeeps.polynomials import product, total
from evenkeeps.ratios import Ratio


def settled_paths(sampler):
    """The list of the pairs (bounds, moves) of all ways from n = 19 on."""
    # At n = 19 itself two forms can still be equal, so that some way is missing there.
    return paths(sampler.program, sampler.places, SETTLED + 1)


def ratio_of(parts):
    """The ratio of n that the chances of some ways add up to, each times a number: pairs (bounds, number)."""
    tops = {}
    for bounds, number in parts:
        top = (number,)
        for first, behind, below in bounds.values():
            top = product(top, (behind[1] - first[1], behind[0] - first[0]))
        forms = tuple(sorted([below for first, behind, below in bounds.values()]))
        tops[forms] = total(tops.get(forms, (0,)), top)
    out = Ratio((0,))
    for forms, top in tops.items():
        out = out + Ratio(top, product_of(forms))
    return out


def product_of(forms):
    """The polynomial that is the product of these forms."""
    out = (1,)
    for factor, summand in forms:
        out = product(out, (summand, factor))
    return out
