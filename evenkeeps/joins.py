"""Joins: programs that make one sample of two."""

from evenkeeps.errors import InvalidCount, InvalidDraws, InvalidLength, NotAJoin
from evenkeeps.joinlines import read_join_row
from evenkeeps.limits import MOST_LENGTH
from evenkeeps.orders import check_settled
from evenkeeps.paths import chance_of, paths
from evenkeeps.programs import built, check_below, check_most, count_statements
from evenkeeps.statements import read_text
from evenkeeps.steps import carried, gathered
from evenkeeps.walks import moves_with
from evenkeeps.wholes import common_multiple, fraction, is_between

# From 20 on no two forms that are compared change their order while m or n grows. The chance of a pattern and the one
# that it should have, times what is below their lines, then have a degree in m, and in n, of at most one for each
# draw of the program and one for each place, 6 + 3.
LAST_SIZE = 29


class Join:
    """A number of places, and the program that is done with two samples that have so many places."""

    def __init__(self, text):
        places, rows = read_text(text, "join", read_join_row)
        program, survey = built(rows, places)
        check_below(rows, (places, places))
        check_settled(program)
        check_most(survey)
        self.text = text
        self.places = places
        self.statements = count_statements(rows)
        self.program = program

    def __eq__(self, other):
        return isinstance(other, Join) and self.text == other.text

    def __str__(self):
        return str(self.text)

    def __repr__(self):
        return f"Join({self.places} places, {self.statements} statements)"


def poured():
    """The join of samples of one item each."""
    return Join("join 1\ndraw r below m + n\nif r < n\n  take 0 0")


def check_join(join):
    """Raises NotAJoin for anything else."""
    if not isinstance(join, Join):
        raise NotAJoin(join)


def check_size(size, join):
    """Raises InvalidLength if a sample of the join cannot have so many items."""
    if not is_between(size, join.places, MOST_LENGTH):
        raise InvalidLength(size)


def patterns(join, m, n):
    """The ascending tuple of the pairs (pattern, chance) that have a chance, None counting as 2."""
    check_join(join)
    check_size(m, join)
    check_size(n, join)
    weights, below = weighed(join, m, n)
    return tuple([(pattern, fraction(weights[pattern], below)) for pattern in all_patterns(join) if pattern in weights])


def weighed(join, m, n):
    """The dict with the weight of each pattern that can come, and the weight of all of them together."""
    parts = []
    for bounds, moves in paths(join.program, 2 * join.places, (m, n)):
        parts.append((chance_of(bounds, (m, n)), pattern_of(moves, join.places)))
    below = common_multiple([low for (above, low), pattern in parts])
    return (gathered(parts, below), below)


def pattern_of(moves, places):
    """From which sample the things in the places of the first one come after these moves."""
    return tuple([None if thing is None else thing // places for thing in moves[:places]])


def all_patterns(join):
    """All patterns of a join, also those that cannot come, in their order."""
    out = [()]
    for place in range(join.places):
        out = [pattern + (source,) for pattern in out for source in (0, 1, None)]
    return out


def is_fair(join):
    """Whether fair samples of any sizes give a fair sample."""
    return first_unfair(join) is None


def first_unfair(join):
    """None, or the triple (m, n, pattern) with the least m + n, then the least m, whose pattern has a wrong chance."""
    check_join(join)
    least = join.places
    for both in range(2 * least, 2 * LAST_SIZE + 1):
        for m in range(max(least, both - LAST_SIZE), min(LAST_SIZE, both - least) + 1):
            wrong = unfair_patterns(join, m, both - m)
            if len(wrong) > 0:
                return (m, both - m, wrong[0])
    return None


def unfair_patterns(join, m, n):
    """The list of the patterns that have another chance for these sizes than they have in a fair sample."""
    weights, below = weighed(join, m, n)
    rows = falling(m + n, join.places)
    return [
        pattern for pattern in all_patterns(join)
        if weights.get(pattern, 0) * rows != fair_rows(pattern, m, n) * below
    ]


def fair_rows(pattern, m, n):
    """In how many rows of different items this pattern comes."""
    return 0 if None in pattern else falling(m, pattern.count(0)) * falling(n, pattern.count(1))


def falling(number, count):
    """The product of so many whole numbers from this one downwards."""
    out = 1
    for less in range(count):
        out = out * (number - less)
    return out


def join_rows(join, sizes, draws, one, other):
    """The row that the join makes of two rows with these draws."""
    check_join(join)
    if not isinstance(sizes, tuple) or len(sizes) != 2:
        raise InvalidCount(sizes)
    if not all([is_between(size, join.places, MOST_LENGTH) for size in sizes]):
        raise InvalidCount(sizes)
    if not isinstance(draws, tuple):
        raise InvalidDraws(None)
    moves = moves_with(join.program, 2 * join.places, sizes, draws)
    check_row(one, join)
    check_row(other, join)
    return carried(one + other, moves[:join.places], None)


def check_row(row, join):
    """Raises InvalidCount if it is not a tuple with as many things as the join has places."""
    if not isinstance(row, tuple) or len(row) != join.places:
        raise InvalidCount(row)
