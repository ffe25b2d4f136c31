"""Whether a certificate is one of a claim, whoever wrote them."""

from evenkeeps.chances import chance, pair_chance
from evenkeeps.errors import InvalidText, ProgramError
from evenkeeps.joins import Join, unfair_patterns
from evenkeeps.limits import MOST_LENGTH, MOST_PLACES, SETTLED
from evenkeeps.ratios import Ratio, value_or_none
from evenkeeps.samplers import Sampler
from evenkeeps.settled import later_table, led_back, new_row, one_later, row_times
from evenkeeps.signs import first_with
from evenkeeps.steps import standings
from evenkeeps.wholes import common_multiple, fraction, is_between

LAST_LOOKED_AT = 40


def sampler_of(text):
    """The sampler with this text, or None for any other value."""
    try:
        return Sampler(text)
    except (InvalidText, ProgramError):
        return None


def join_of(text):
    """The join with this text, or None for any other value."""
    try:
        return Join(text)
    except (InvalidText, ProgramError):
        return None


def ratio_with(text):
    """The ratio with this text, or None for any other value."""
    try:
        return Ratio.read(text)
    except InvalidText:
        return None


def ratios_with(texts, count):
    """The list of the ratios with the texts in a tuple of so many, or None for any other value."""
    if not isinstance(texts, tuple) or len(texts) != count:
        return None
    ratios = [ratio_with(text) for text in texts]
    return None if any([ratio is None for ratio in ratios]) else ratios


def rows_with(rows, count):
    """The list of the lists of ratios with the texts in a tuple of tuples of so many, or None for any other value."""
    if not isinstance(rows, tuple):
        return None
    found = [ratios_with(row, count) for row in rows]
    return None if any([row is None for row in found]) else found


def is_length(value):
    """Whether it is a length."""
    return is_between(value, 1, MOST_LENGTH)


def is_pair(value, length):
    """Whether it is a pair of items of this length."""
    if not isinstance(value, tuple) or len(value) != 2:
        return False
    return all([is_between(item, 1, length) for item in value]) and value[0] < value[1]


def is_pattern(value, places):
    """Whether it is a pattern for so many places."""
    if not isinstance(value, tuple) or len(value) != places:
        return False
    return all([source is None or is_between(source, 0, 1) for source in value])


def is_uneven(parts):
    """Whether these are a sampler, a length and two items with unlike chances."""
    if len(parts) != 4:
        return False
    text, length, one, other = parts
    sampler = sampler_of(text)
    if sampler is None or not is_length(length):
        return False
    if not is_between(one, 1, length) or not is_between(other, 1, length):
        return False
    return chance(sampler, length, one) != chance(sampler, length, other)


def is_uneven_in_pairs(parts):
    """Whether these are a sampler, a length and two pairs with unlike chances."""
    if len(parts) != 4:
        return False
    text, length, one, other = parts
    sampler = sampler_of(text)
    if sampler is None or not is_length(length) or not is_pair(one, length) or not is_pair(other, length):
        return False
    return pair_chance(sampler, length, one[0], one[1]) != pair_chance(sampler, length, other[0], other[1])


def is_apart(parts):
    """Whether these are two samplers, a length, an item and a place with unlike chances."""
    if len(parts) != 5:
        return False
    sampler = sampler_of(parts[0])
    another = sampler_of(parts[1])
    if sampler is None or another is None or sampler.places != another.places:
        return False
    length, item, place = parts[2:]
    if not is_length(length) or not is_between(item, 1, length) or not is_between(place, 0, sampler.places - 1):
        return False
    return chance(sampler, length, item, place) != chance(another, length, item, place)


def is_unfair(parts):
    """Whether these are a join, two sizes and a pattern that has a wrong chance for them."""
    if len(parts) != 4:
        return False
    text, m, n, pattern = parts
    join = join_of(text)
    if join is None or not is_pattern(pattern, join.places):
        return False
    if not is_between(m, join.places, MOST_LENGTH) or not is_between(n, join.places, MOST_LENGTH):
        return False
    return pattern in unfair_patterns(join, m, n)


def is_off(parts):
    """Whether these are a sampler, a formula, a length and an item whose chance is not as told."""
    if len(parts) != 4:
        return False
    text, formula, length, item = parts
    sampler = sampler_of(text)
    ratios = ratios_with(formula, 2)
    if sampler is None or ratios is None or not is_length(length) or not is_between(item, 1, length):
        return False
    one = value_or_none(ratios[0], item)
    other = value_or_none(ratios[1], length)
    if one is None or other is None:
        return True
    return chance(sampler, length, item) != fraction(one[0] * other[0], one[1] * other[1])


def is_fair_join(parts):
    """Whether this is a join whose patterns have the right chances for all sizes up to 40, and so for all."""
    join = join_of(parts[0]) if len(parts) == 1 else None
    if join is None:
        return False
    sizes = list(range(join.places, LAST_LOOKED_AT + 1))
    return all([len(unfair_patterns(join, m, n)) == 0 for m in sizes for n in sizes])


FACTS = {
    "uneven": is_uneven, "uneven pairs": is_uneven_in_pairs, "apart": is_apart, "unfair": is_unfair, "off": is_off,
    "fair": is_fair_join
}


def holds(claim, certificate):
    """Whether the certificate is one of the claim; any two values will do."""
    if not isinstance(claim, tuple) or not isinstance(certificate, tuple):
        return False
    if len(claim) == 0 or not isinstance(claim[0], str):
        return False
    if claim[0] == "even":
        return len(claim) == 2 and len(certificate) == 3 and is_proved(sampler_of(claim[1]), certificate)
    if len(certificate) > 0 or claim[0] not in FACTS:
        return False
    fact = FACTS[claim[0]]
    return fact(claim[1:])


def is_proved(sampler, certificate):
    """Whether a certificate with three parts shows that the sampler, which may be None, is even."""
    if sampler is None:
        return False
    columns = rows_with(certificate[0], sampler.places)
    if columns is None or not 1 <= len(columns) <= MOST_PLACES:
        return False
    leads = rows_with(certificate[1], len(columns))
    last = certificate[2]
    if leads is None or len(leads) != len(columns) or not is_between(last, SETTLED, MOST_LENGTH):
        return False
    if any([str(ratio) != "1" for ratio in columns[0]]):
        return False
    if any([first_with(ratio.bottom, last, 0) is not None for row in columns + leads for ratio in row]):
        return False
    table = later_table(sampler)
    if not is_led_on(table, columns, leads) or not is_level_later(sampler, table, columns):
        return False
    return is_level_early(sampler, columns, last)


def is_led_on(table, columns, leads):
    """Whether the step table makes of each column the sum of all columns times its leads."""
    across = [[each[place] for each in columns] for place in range(len(table))]
    for column, lead in zip(columns, leads):
        if led_back(table, column) != tuple([row_times(lead, ratios) for ratios in across]):
            return False
    return True


def is_level_later(sampler, table, columns):
    """Whether for t from 19 on the rows of t and t + 1 after t + 1 items have equal products with each column."""
    new = new_row(sampler)
    row = [row_times(new, [line[place] for line in table]) for place in range(sampler.places)]
    later = one_later(new)
    return all([row_times(row, one_later(column)) == row_times(later, one_later(column)) for column in columns])


def is_level_early(sampler, columns, last):
    """Whether the items up to 19 have equal chances up to the last length, and then equal products with each column."""
    for rows, below in standings(sampler, last):
        early = rows[:SETTLED]
        if not are_equal([sum(row) for row in early]):
            return False
        if len(rows) == last and not all([are_equal(products(early, column, last)) for column in columns]):
            return False
    return True


def products(rows, column, at):
    """The products of rows of whole numbers with a column of ratios at a number, all of them times one number."""
    values = [ratio(at) for ratio in column]
    whole = common_multiple([below for above, below in values])
    scaled = [above * (whole // below) for above, below in values]
    return [sum([weight * value for weight, value in zip(row, scaled)]) for row in rows]


def are_equal(numbers):
    """Whether all of the numbers, one or more, are the same."""
    return all([number == numbers[0] for number in numbers])
