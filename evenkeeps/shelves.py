"""Shelves, which keep samplers under names, with demands that they always meet."""

from evenkeeps.checks import check_sampler
from evenkeeps.costs import never_more
from evenkeeps.errors import Held, InvalidEdit, InvalidText, Missing, NothingBack, Refused
from evenkeeps.evenness import is_even, is_even_in_pairs, is_even_in_places
from evenkeeps.formulas import follows
from evenkeeps.likeness import alike
from evenkeeps.programs import is_letters
from evenkeeps.ratios import Ratio
from evenkeeps.samplers import Sampler


class Shelf:
    """Samplers under names, each with the tuple of its demands.

    `kept` is a dict with a pair (sampler, demands) for each name; it is never changed, but another one takes its
    place. `past` has those that can be brought back.
    """

    def __init__(self):
        self.kept = {}
        self.names = ()
        self.past = []
        self.held = False

    def __getitem__(self, at):
        return found_in(self.kept, at)[0]

    def __setitem__(self, at, worth):
        if not isinstance(at, str) or not is_letters(at):
            raise InvalidText(at)
        check_sampler(worth)
        demands = self.kept[at][1] if at in self.kept else ()
        for demand in demands:
            if not meets(worth, demand):
                raise Refused(at, demand)
        self.change({**self.kept, at: (worth, demands)})

    def __contains__(self, x):
        return isinstance(x, str) and x in self.kept

    def __len__(self):
        return len(self.kept)

    def __iter__(self):
        raise TypeError("a shelf is not iterated over")

    def __repr__(self):
        return f"Shelf({len(self.kept)} samplers)"

    def change(self, kept):
        """Goes over to other contents; inside all_or_none this is a part of one change."""
        if not self.held:
            self.past.append(self.kept)
        self.show(kept)

    def show(self, kept):
        """Shows these contents."""
        self.kept = kept
        self.names = tuple(sorted(list(kept)))

    def wish(self, name, demand):
        """Makes a demand."""
        sampler, demands = found_in(self.kept, name)
        if not is_demand(demand):
            raise InvalidEdit(None)
        if not meets(sampler, demand):
            raise Refused(name, demand)
        self.change({**self.kept, name: (sampler, demands + (demand,))})

    def free(self, name, demand):
        """Takes away the first demand that is equal to this one."""
        sampler, demands = found_in(self.kept, name)
        # Only a demand is compared, since other things may be of any kind.
        equal = [at for at, each in enumerate(demands) if each == demand] if is_demand(demand) else []
        if len(equal) == 0:
            raise Refused(name, demand)
        self.change({**self.kept, name: (sampler, demands[:equal[0]] + demands[equal[0] + 1:])})

    def drop(self, name):
        """Takes a sampler and its demands away."""
        found_in(self.kept, name)
        self.change({each: self.kept[each] for each in self.kept if each != name})

    def wishes(self, name):
        """The tuple of the demands of a sampler."""
        return found_in(self.kept, name)[1]

    def all_or_none(self, deed):
        """What a deed with the shelf returns; all that it does is one change, and none if it raises an error."""
        before = self.kept
        outer = self.held
        kept = before
        names = self.names
        self.held = True
        try:
            result = deed(self)
            kept = self.kept
            names = self.names
        finally:
            self.kept = kept
            self.names = names
            self.held = outer
        if not outer:
            self.past.append(before)
        return result

    def back(self):
        """Takes back the last change."""
        if self.held:
            raise Held()
        if len(self.past) == 0:
            raise NothingBack()
        self.show(self.past.pop())


def found_in(kept, name):
    """The pair (sampler, demands) under a name; raises Missing for any other value."""
    if not isinstance(name, str) or name not in kept:
        raise Missing(name)
    return kept[name]


def is_demand(value):
    """Whether it is a demand."""
    if isinstance(value, str):
        return value in ("even", "even in places", "even in pairs")
    if not isinstance(value, tuple) or len(value) == 0 or not isinstance(value[0], str):
        return False
    if value[0] in ("alike", "never more"):
        return len(value) == 2 and isinstance(value[1], Sampler)
    if value[0] != "follows" or len(value) != 3:
        return False
    return isinstance(value[1], Ratio) and isinstance(value[2], Ratio)


def meets(sampler, demand):
    """Whether a sampler meets a demand."""
    if demand == "even":
        return is_even(sampler)
    if demand == "even in places":
        return is_even_in_places(sampler)
    if demand == "even in pairs":
        return is_even_in_pairs(sampler)
    if demand[0] == "alike":
        return sampler.places == demand[1].places and alike(sampler, demand[1])
    if demand[0] == "never more":
        return never_more(sampler, demand[1])
    return follows(sampler, demand[1], demand[2])
