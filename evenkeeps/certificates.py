"""Claims with certificates that the checker accepts."""

from evenkeeps.evenness import first_uneven, first_uneven_pairs
from evenkeeps.formulas import first_off
from evenkeeps.horizons import highest_power
from evenkeeps.joins import first_unfair
from evenkeeps.likeness import first_apart
from evenkeeps.limits import MOST_LENGTH, SETTLED
from evenkeeps.polynomials import MOST_POWER
from evenkeeps.ratios import Ratio, as_ratio
from evenkeeps.settled import later_table, led_back
from evenkeeps.signs import last_zero


def certify_even(sampler):
    """The claim that the sampler is even, or uneven, with its certificate; None if that needs too high numbers."""
    triple = first_uneven(sampler)
    if triple is not None:
        return at_length(("uneven", str(sampler)), triple)
    columns, leads = independent_columns(later_table(sampler), sampler.places)
    ratios = [ratio for row in columns + leads for ratio in row]
    last = max([SETTLED] + [zero + 1 for zero in last_gaps(ratios)])
    if last > MOST_LENGTH or not can_be_read(ratios):
        return None
    return (("even", str(sampler)), (texts_of(columns), texts_of(leads), last))


def at_length(first, rest):
    """The claim with these parts, the first of `rest` being a length, and its certificate; None beyond 60."""
    return None if rest[0] > MOST_LENGTH else (first + rest, ())


def last_gaps(ratios):
    """The list of the last gaps from 19 on of those ratios that have one."""
    zeros = [last_zero(ratio.bottom, SETTLED) for ratio in ratios]
    return [zero for zero in zeros if zero is not None]


def can_be_read(ratios):
    """Whether no power in these ratios is too high for a text that is read."""
    return all([highest_power(ratio) <= MOST_POWER for ratio in ratios])


def texts_of(rows):
    """The tuple of tuples with the texts of rows of ratios."""
    return tuple([tuple([str(ratio) for ratio in row]) for row in rows])


def independent_columns(table, places):
    """A pair: the column of ones and those that the step table makes of it, as long as they are independent; leads."""
    columns = [(Ratio((1,)),) * places]
    after = led_back(table, columns[-1])
    shares = shares_of(after, columns)
    while shares is None:
        columns.append(after)
        after = led_back(table, after)
        shares = shares_of(after, columns)
    # Each column but the last one is led to the one behind it.
    count = len(columns)
    leads = [tuple([Ratio((1 if at == k + 1 else 0,)) for at in range(count)]) for k in range(count - 1)]
    return (columns, leads + [shares])


def shares_of(column, columns):
    """The tuple of ratios with which independent columns add up to a column, or None."""
    rows = [[each[place] for each in columns] + [column[place]] for place in range(len(column))]
    for at in range(len(columns)):
        rows = cleared(rows, at)
    if any([bool(row[-1]) for row in rows[len(columns):]]):
        return None
    return tuple([row[-1] for row in rows[:len(columns)]])


def cleared(rows, at):
    """The rows with one that has a 1 at this index brought to this place, and 0 there in all others."""
    chosen = [k for k in range(at, len(rows)) if rows[k][at]][0]
    lead = [ratio.over(rows[chosen][at]) for ratio in rows[chosen]]
    others = rows[:chosen] + rows[chosen + 1:]
    rest = [[ratio - row[at] * part for ratio, part in zip(row, lead)] for row in others]
    return rest[:at] + [lead] + rest[at:]


def certify_pairs(sampler):
    """The claim that the sampler is uneven in pairs, with its certificate; None if it is even, or beyond 60."""
    triple = first_uneven_pairs(sampler)
    return None if triple is None else at_length(("uneven pairs", str(sampler)), triple)


def certify_apart(one, other):
    """The claim that two samplers are apart, with its certificate; None if they are alike, or beyond 60."""
    triple = first_apart(one, other)
    return None if triple is None else at_length(("apart", str(one), str(other)), triple)


def certify_join(join):
    """The claim that the join is fair, or unfair, with its certificate."""
    triple = first_unfair(join)
    if triple is None:
        return (("fair", str(join)), ())
    return (("unfair", str(join)) + triple, ())


def certify_off(sampler, by_item, by_length, since=1):
    """The claim that the sampler is off a formula, with its certificate; None if it is not, or numbers are too high."""
    found = first_off(sampler, by_item, by_length, since)
    formula = (as_ratio(by_item), as_ratio(by_length))
    if found is None or not can_be_read(formula):
        return None
    return at_length(("off", str(sampler), (str(formula[0]), str(formula[1]))), found)
