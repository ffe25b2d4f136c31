"""How far a sampler has to be looked at, so that what is true up to there is true for every length.

From n = 19 on the chances of the ways are fractions of polynomials of n, the same ones for all these n. The product
of the forms below which is drawn, each of them as often as on the way that has it most often, is a denominator of all
of them; b is its degree, and then no polynomial above the line has a higher one. So a product of j chances of j steps
one after another, and a sum of such products, has a degree of at most j * b above the line: if it is 0 for
j * b + 1 values of n from 19 on, it is 0 for all of them.

Items. A sampler with k places is even if the rows of chances of the items t and t + 1 always have a difference d with
d * w = 0, w being the column of ones (or that of a place). Let c(j) be what the tables of the steps n + 1 to n + j
make of w, a column of fractions of n. The first m of these, m being at most k, are independent and lead to all others
by sums of multiples. One of their minors is not 0; its degree is at most b * (1 + .. + (k - 1)), so it has a value
other than 0 at some N not far from 19. There each c(j) has, as numbers too, the first m as its parts; so a difference
d after N items with d * w = 0 for the lengths N to N + m - 1 has d * w = 0 for all later ones. For t from N on, d after
t + 1 items times c(j), j < m, has a degree of at most b * (j + 2): if it is 0 for t from 19 to 19 + b * (k + 1), it
is always 0, and with it d times all other c(j). The last length of these is t + 1 + j, at most 19 + b * (k + 1) + k.
For chances in two places likewise, with the row of t in the place of d.

Pairs. Here c(j) belongs to the three groups of two places, or the only one, and tells how a pair goes on. All
pairs are equal if (t, u) and (t + 1, u) are, and (u - 1, u) and (u - 1, u + 1). Pairs that have come after N items are
settled as above, with N from 20 on. The second kind has degrees of at most b * (3 + j), j < 3, for u from 20 on. For
the first kind, d as above is led on to u - 1, then with the item u to pairs, then on as pairs: it is multiplied by
what the tables of i steps make of the column g(j) that the step behind them makes of c(j). Over the fractions, these
columns for i + j up to 3 (up to 1, if there are two places) lead to all others: when i + j goes up by one, the space of
them grows or stays as it is for ever, but that it may wait once for g(2). The degrees of independent ones, 1 + i + j
times b, add up to at most b * (1 + 3 + 4), for two places to b * (1 + 2). With b * (1 + 2) for the c(j) of three
groups, N is at most 20 + 11 * b, or 20 + 3 * b; the last length is N + 1 + i + j. For t from N on the degrees are at
most b * (3 + i + j), and the last length is at most 19 + 6 * b + 5, or 19 + 4 * b + 3.
"""

from evenkeeps.limits import SETTLED
from evenkeeps.paths import paths


def forms_below(sampler):
    """The list of the forms whose product is a denominator of all chances from n = 19 on."""
    most = {}
    # At n = 19 itself two forms can still be equal, so that some way is missing there.
    for bounds, moves in paths(sampler.program, sampler.places, SETTLED + 1):
        forms = [below for first, behind, below in bounds.values()]
        for form in forms:
            most[form] = max(most.get(form, 0), forms.count(form))
    return [each for each in most for number in range(most[each])]


def degree(sampler):
    """The degree of the product of these forms."""
    return len([form for form in forms_below(sampler) if form[0] > 0])


def last_for_items(sampler):
    """The length up to which the chances of items have to be equal, so that they always are."""
    return SETTLED + degree(sampler) * (sampler.places + 1) + sampler.places


def last_for_pairs(sampler):
    """The length up to which the chances of pairs have to be equal, so that they always are."""
    if sampler.places < 3:
        return SETTLED + 4 * degree(sampler) + 3
    return SETTLED + 11 * degree(sampler) + 5
