"""Samplers that are well known."""

from evenkeeps.errors import InvalidCount
from evenkeeps.limits import MOST_PLACES
from evenkeeps.samplers import Sampler
from evenkeeps.wholes import is_between

MOST_FADING = 9
PAIR_LINES = (
    "places 2",
    "if n < 3",
    "  if n is 1",
    "    put 0",
    "  else",
    "    put 1",
    "else",
    "  draw r below n",
    "  if r < 2",
    "    if r is 0",
    "      put 0",
    "    else",
    "      put 1",
)
LAST_LINES = ("exchange 1 2", "exchange 0 1", "put 0")


def pair():
    """The sampler that keeps two items, each two of them with the same chance."""
    return Sampler("\n".join(PAIR_LINES))


def single():
    """The sampler that keeps one item, each with the same chance."""
    return one_in("n")


def fading(c):
    """The sampler that keeps each new item with the chance 1 / c."""
    if not is_between(c, 1, MOST_FADING):
        raise InvalidCount(c)
    return one_in(str(c))


def one_in(form):
    """The sampler that puts a new item into its place once in as many draws as the form says."""
    return Sampler(f"places 1\ndraw r below {form}\nif r is 0\n  put 0")


def last(k):
    """The sampler that keeps the last k items."""
    if not is_between(k, 1, MOST_PLACES):
        raise InvalidCount(k)
    lines = (f"places {k}",) + LAST_LINES[-k:]
    return Sampler("\n".join(lines))
