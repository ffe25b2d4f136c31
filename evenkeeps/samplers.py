"""Samplers: programs that keep items in a few places."""

from evenkeeps.errors import InvalidLength, NotASampler
from evenkeeps.limits import MOST_LENGTH
from evenkeeps.paths import chance_of, paths
from evenkeeps.programs import built, check_below, check_most, count_statements
from evenkeeps.statements import read_sampler_row, read_text
from evenkeeps.wholes import is_between


class Sampler:
    """A number of places, and the program that is done for each item that comes."""

    def __init__(self, text):
        places, rows = read_text(text, "places", read_sampler_row)
        program, survey = built(rows, places)
        check_below(rows, 1)
        check_most(survey)
        self.text = text
        self.places = places
        self.statements = count_statements(rows)
        self.names = tuple(sorted(set(survey.ever)))
        self.program = program

    def __eq__(self, other):
        return isinstance(other, Sampler) and self.text == other.text

    def __str__(self):
        return str(self.text)

    def __repr__(self):
        return f"Sampler({self.places} places, {self.statements} statements)"


def ways(sampler, step):
    """Yields a pair (chance, moves) for each way through the program that has a chance at this step."""
    if not isinstance(sampler, Sampler):
        raise NotASampler(sampler)
    if not is_between(step, 1, MOST_LENGTH):
        raise InvalidLength(step)
    for bounds, moves in paths(sampler.program, sampler.places, step):
        yield (chance_of(bounds, step), moves)
