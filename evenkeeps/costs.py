"""How many draws and writes the steps of a sampler take."""

from evenkeeps.checks import check_length, check_sampler
from evenkeeps.limits import SETTLED
from evenkeeps.paths import chance_of, paths
from evenkeeps.settled import ratio_of, settled_paths
from evenkeeps.signs import first_with
from evenkeeps.wholes import common_multiple, fraction


def draws_at(sampler, step):
    """The draws of the step: over all ways, the chance of the way times the number of draws on it."""
    check_sampler(sampler)
    check_length(step)
    return added_up(with_draws(paths(sampler.program, sampler.places, step)), step)


def writes_at(sampler, step):
    """The chance that the new item lies in some place right after the step."""
    check_sampler(sampler)
    check_length(step)
    return added_up(with_writes(paths(sampler.program, sampler.places, step)), step)


def with_draws(found):
    """The pairs (bounds, number of draws) of ways."""
    return [(bounds, len(bounds)) for bounds, moves in found]


def with_writes(found):
    """The pairs (bounds, 1 or 0) of ways, 1 for those that keep the new item."""
    return [(bounds, 1 if "new" in moves else 0) for bounds, moves in found]


def added_up(parts, n):
    """The fraction that the chances of some ways add up to at the step n, each times its number."""
    chances = [(chance_of(bounds, n), number) for bounds, number in parts]
    whole = common_multiple([below for (above, below), number in chances])
    return fraction(sum([above * (whole // below) * number for (above, below), number in chances]), whole)


def draws_later(sampler):
    """The ratio that the draws are from n = 19 on."""
    check_sampler(sampler)
    return ratio_of(with_draws(settled_paths(sampler)))


def writes_later(sampler):
    """The ratio that the writes are from n = 19 on."""
    check_sampler(sampler)
    return ratio_of(with_writes(settled_paths(sampler)))


def never_more(one, other):
    """Whether one sampler never draws more than the other one."""
    return first_more(one, other) is None


def first_more(one, other):
    """None, or the first step at which one sampler draws more than the other one."""
    check_sampler(one)
    check_sampler(other)
    for n in range(1, SETTLED):
        above, below = draws_at(one, n)
        high, low = draws_at(other, n)
        if above * low > high * below:
            return n
    # The polynomial below the line divides a product of forms, all of them above 0 from here on.
    return first_with((draws_later(one) - draws_later(other)).top, SETTLED, 1)
