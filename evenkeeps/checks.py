"""The checks of arguments that many functions have in common."""

from evenkeeps.errors import InvalidItem, InvalidLength, InvalidPlace, NotASampler
from evenkeeps.limits import MOST_LENGTH
from evenkeeps.samplers import Sampler
from evenkeeps.wholes import is_between


def check_sampler(sampler):
    """Raises NotASampler for anything else."""
    if not isinstance(sampler, Sampler):
        raise NotASampler(sampler)


def check_length(length, most=MOST_LENGTH):
    """Raises InvalidLength if it is not a length up to this one."""
    if not is_between(length, 1, most):
        raise InvalidLength(length)


def check_item(item, least, length):
    """Raises InvalidItem if it is not an item from the least one up to the length."""
    if not is_between(item, least, length):
        raise InvalidItem(item)


def check_place(place, sampler):
    """Raises InvalidPlace if it is neither the number of a place of the sampler nor None."""
    if place is not None and not is_between(place, 0, sampler.places - 1):
        raise InvalidPlace(place)
