"""How far samplers have to be looked at, so that what is true up to there is true for every length.

From n = 19 on the chances of the ways are fractions of polynomials of n, the same ones for all these n. The product
of the forms below which is drawn, each of them as often as on the way that has it most often, is a denominator of all
of them; b is its degree, and then no polynomial above the line has a higher one. So a product of j chances of j steps
one after another, and a sum of such products, has a degree of at most j * b above the line: if it is 0 for
j * b + 1 values of n from 19 on, it is 0 for all of them.

Items. A sampler with k places is even if the rows of chances of the items t and t + 1 always have a difference d with
d * w = 0, w being the column of ones (or that of a place). Let c(j) be what the tables of the steps n + 1 to n + j
make of w, a column of fractions of n. The first m of these, m being at most k, are independent and lead to all others
by sums of multiples. One of their minors is not 0; its degree is at most b * (1 + .. + (k - 1)), so it has a value
other than 0 at some N not far from 19. There each c(j) has, as numbers too, the first m as its parts; so a difference
d after N items with d * w = 0 for the lengths N to N + m - 1 has d * w = 0 for all later ones. For t from N on, d after
t + 1 items times c(j), j < m, has a degree of at most b * (j + 2): if it is 0 for t from 19 to 19 + b * (k + 1), it
is always 0, and with it d times all other c(j). The last length of these is t + 1 + j, at most 19 + b * (k + 1) + k.
For chances in two places likewise, with the row of t in the place of d.

Pairs. Here c(j) belongs to the three groups of two places, or the only one, and tells how a pair goes on. All
pairs are equal if (t, u) and (t + 1, u) are, and (u - 1, u) and (u - 1, u + 1). Pairs that have come after N items are
settled as above, with N from 20 on. The second kind has degrees of at most b * (3 + j), j < 3, for u from 20 on. For
the first kind, d as above is led on to u - 1, then with the item u to pairs, then on as pairs: it is multiplied by
what the tables of i steps make of the column g(j) that the step behind them makes of c(j). Over the fractions, these
columns for i + j up to 3 (up to 1, if there are two places) lead to all others: when i + j goes up by one, the space of
them grows or stays as it is for ever, but that it may wait once for g(2). The degrees of independent ones, 1 + i + j
times b, add up to at most b * (1 + 3 + 4), for two places to b * (1 + 2). With b * (1 + 2) for the c(j) of three
groups, N is at most 20 + 11 * b, or 20 + 3 * b; the last length is N + 1 + i + j. For t from N on the degrees are at
most b * (3 + i + j), and the last length is at most 19 + 6 * b + 5, or 19 + 4 * b + 3.

Formulas. The chance of t less g(t) * f(n) is the product of the row of t, lengthened by g(t), and the column of ones,
lengthened by -f(n); the tables lead the row on and leave g(t) as it is. So there are k + 1 parts, and N is at most
20 (lengths may be looked at from there on only) and the degree of a minor, b * (1 + .. + k) and F for each of the
k + 1 columns, F being the highest power in f. For t from N on, the degrees are at most b * (k + 1) + F + G, with G for
g. Moreover N is to be above G: if f does not go on as the columns do, then some sum of multiples of the long columns
is 0 but for its last part, so that g is 0 at each t up to N, and 0 as a whole. If neither g nor f is 0, then there is
no gap far out: a gap of g at t would have to meet with f(t + j) = 0 for all j, and f goes on as the columns do, by
ratios without gaps at N. If one of them is 0, the powers of the other one do not matter, but its gaps are looked for.

Two samplers. The rows of t for both, one behind the other, the second one times -1, are multiplied by columns for each
place; b belongs to the forms of both. The first k columns are independent; so all of them come from those for j up to
k, and a minor has a degree of at most b * (1 + .. + k). For t from N on the degrees are at most b * (k + 1).

Pairs of two samplers. With q groups of two places there are 2 * q columns c(j) at most, with degrees b * j; and the
columns for i < 2 * k and j < 2 * q lead to all others, since with each i their space grows or stays as it is for ever.
The degrees of independent ones, at least one for each i, add up to at most b * (1 + .. + 2 * k + 2 * k * (2 * q - 1)).
"""

from evenkeeps.limits import SETTLED
from evenkeeps.settled import settled_paths


def forms_below(samplers):
    """The list of the forms whose product is a denominator of all chances of these samplers from n = 19 on."""
    most = {}
    for bounds, moves in [path for sampler in samplers for path in settled_paths(sampler)]:
        forms = [below for first, behind, below in bounds.values()]
        for form in forms:
            most[form] = max(most.get(form, 0), forms.count(form))
    return [each for each in most for number in range(most[each])]


def degree(samplers):
    """The degree of the product of these forms."""
    return len([form for form in forms_below(samplers) if form[0] > 0])


def sum_to(number):
    """1 + 2 + .. up to a number."""
    return number * (number + 1) // 2


def last_for_items(sampler):
    """The length up to which the chances of items have to be equal, so that they always are."""
    return SETTLED + degree((sampler,)) * (sampler.places + 1) + sampler.places


def last_for_pairs(sampler):
    """The length up to which the chances of pairs have to be equal, so that they always are."""
    if sampler.places < 3:
        return SETTLED + 4 * degree((sampler,)) + 3
    return SETTLED + 11 * degree((sampler,)) + 5


def last_for_formula(sampler, by_item, by_length):
    """The length up to which a formula has to fit, so that it always does, but for gaps if one ratio is 0."""
    places = sampler.places
    steps = degree((sampler,)) * max(sum_to(places), places + 1)
    powers = highest_power(by_item) + highest_power(by_length) * (places + 1) if by_item * by_length else 0
    return SETTLED + 1 + steps + powers + places


def highest_power(ratio):
    """The highest power of n in a ratio, above or below the line."""
    return max(len(ratio.top), len(ratio.bottom)) - 1


def last_for_two(one, other):
    """The length up to which the chances of items in places have to be the same for both, so that they always are."""
    places = one.places
    return SETTLED + degree((one, other)) * max(sum_to(places), places + 1) + places


def last_for_pairs_of_two(one, other):
    """The length up to which the chances of pairs have to be the same for both, so that they always are."""
    alone = 2 * one.places
    both = one.places * (one.places - 1)
    most = sum_to(both - 1) + sum_to(alone) + alone * (both - 1)
    return SETTLED + degree((one, other)) * most + alone + both
