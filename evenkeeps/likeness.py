"""Whether two samplers have the same chances, for rows of every length."""

from evenkeeps.checks import check_sampler
from evenkeeps.errors import UnlikePlaces
from evenkeeps.horizons import last_for_pairs_of_two, last_for_two
from evenkeeps.spaces import space_of
from evenkeeps.steps import Step, standings, times
from evenkeeps.wholes import common_multiple


def alike(one, other):
    """Whether for every length each item has in each place the same chance for both."""
    return first_apart(one, other) is None


def first_apart(one, other):
    """None, or the least triple (n, t, p) for which the chances of the item t in the place p differ."""
    check_two(one, other)
    last = last_for_two(one, other)
    for (rows, below), (others, whole) in zip(standings(one, last), standings(other, last)):
        for at, row in enumerate(rows):
            for place, weight in enumerate(row):
                if weight * whole != others[at][place] * below:
                    return (len(rows), at + 1, place)
    return None


def check_two(one, other):
    """Raises NotASampler for the first one that is none, and UnlikePlaces for samplers with unlike places."""
    check_sampler(one)
    check_sampler(other)
    if one.places != other.places:
        raise UnlikePlaces()


def alike_in_pairs(one, other):
    """Whether for every length each pair has the same chance for both."""
    check_two(one, other)
    # Only the spaces of the rows are kept: all pairs are alike if all rows that they are sums of are.
    items = []
    pairs = []
    for n in range(1, last_for_pairs_of_two(one, other) + 1):
        step = DoubleStep(Step(one, n), Step(other, n))
        pairs = space_of([times(row, step.pairs) for row in pairs] + [times(row, step.beside) for row in items])
        items = space_of([times(row, step.singles) for row in items] + [step.new])
        if any([sum(row) != 0 for row in pairs]):
            return False
    return True


class DoubleStep:
    """A step of two samplers, whose weights stand in one row, those of the second one times -1.

    `new` is the row of the new item, the others are columns as those of a Step.
    """

    def __init__(self, one, other):
        whole = common_multiple([one.below, other.below])
        left = whole // one.below
        right = whole // other.below
        self.new = times((left,), one.new) + times((-right,), other.new)
        self.beside = side_by_side(one.beside, left, other.beside, right)
        self.singles = side_by_side(one.singles, left, other.singles, right)
        self.pairs = side_by_side(one.pairs, left, other.pairs, right)


def side_by_side(one, left, other, right):
    """The columns for two rows one behind the other, from those for each of them and the numbers to multiply by."""
    first = [tuple([weight * left for weight in column] + [0 for weight in column]) for column in one]
    second = [tuple([0 for weight in column] + [weight * right for weight in column]) for column in other]
    return tuple(first + second)
