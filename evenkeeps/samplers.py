"""Samplers: programs that keep items in a few places."""

from evenkeeps.errors import BelowOne, InvalidLength, InvalidText, NotASampler, TooMuch
from evenkeeps.forms import form_at
from evenkeeps.limits import MOST_LENGTH, MOST_ON_A_WAY, MOST_PLACES
from evenkeeps.paths import paths
from evenkeeps.programs import check_amounts, check_spots, nested, surveyed
from evenkeeps.statements import read_rows
from evenkeeps.wholes import fraction, is_between, read_whole


class Sampler:
    """A number of places, and the program that is done for each item that comes."""

    def __init__(self, text):
        if not isinstance(text, str):
            raise InvalidText(text)
        lines = text.split("\n")
        places = read_places(lines[0])
        rows = read_rows(lines)
        if places is None or rows is None:
            raise InvalidText(text)
        check_amounts(rows)
        check_spots(rows, places)
        program = nested(rows)
        survey = surveyed(program)
        check_below(rows)
        if survey.most > MOST_ON_A_WAY:
            raise TooMuch("way")
        self.text = text
        self.places = places
        self.statements = len([row for row in rows if row.kind != "else"])
        self.names = tuple(sorted(set(survey.ever)))
        self.program = program

    def __eq__(self, other):
        return isinstance(other, Sampler) and self.text == other.text

    def __str__(self):
        return str(self.text)

    def __repr__(self):
        return f"Sampler({self.places} places, {self.statements} statements)"


def read_places(line):
    """The number of places that the first line of a sampler's text tells, or None."""
    word, blank, number = line.partition(" ")
    return read_whole(number, 1, MOST_PLACES) if word == "places" else None


def check_below(rows):
    """Raises BelowOne with the first line in which nothing can be drawn for some n."""
    for row in rows:
        # No form falls, so it is least for the first n.
        if row.kind == "draw" and form_at(row.form, 1) < 1:
            raise BelowOne(row.line)


def chance_of(bounds, n):
    """The chance of a way with these bounds at the step n."""
    above = 1
    below = 1
    for first, behind, form in bounds.values():
        above = above * (form_at(behind, n) - form_at(first, n))
        below = below * form_at(form, n)
    return fraction(above, below)


def ways(sampler, step):
    """Yields a pair (chance, moves) for each way through the program that has a chance at this step."""
    if not isinstance(sampler, Sampler):
        raise NotASampler(sampler)
    if not is_between(step, 1, MOST_LENGTH):
        raise InvalidLength(step)
    for bounds, moves in paths(sampler.program, sampler.places, step):
        yield (chance_of(bounds, step), moves)
