"""The lines of programs: those that samplers and joins have in common, and those of samplers."""

from evenkeeps.errors import InvalidText
from evenkeeps.forms import read_form
from evenkeeps.limits import MOST_PLACES
from evenkeeps.programs import Row, is_name, is_nested_well, read_depth, read_spots
from evenkeeps.wholes import read_whole

MOST_COMPARED = 12


def read_head(line, word):
    """The number of places that the first line tells behind this word, or None."""
    first, blank, number = line.partition(" ")
    return read_whole(number, 1, MOST_PLACES) if first == word else None


def read_text(text, word, reader):
    """The pair (places, rows) of a text that begins with this word; `reader` makes a row of the words of a line."""
    if not isinstance(text, str):
        raise InvalidText(text)
    lines = text.split("\n")
    places = read_head(lines[0], word)
    rows = read_rows(lines, reader)
    if places is None or rows is None:
        raise InvalidText(text)
    return (places, rows)


def read_rows(lines, reader):
    """The rows of the lines of a text, the first of them left out, or None."""
    rows = [read_row(line, text, reader) for line, text in enumerate(lines) if line > 0]
    if any([row is None for row in rows]) or not is_nested_well(rows):
        return None
    return rows


def read_row(line, text, reader):
    """The row of the line with this number and this text, or None."""
    depth = read_depth(text)
    words = text.lstrip(" ").split(" ")
    return None if depth is None else reader(line, depth, words)


def read_named(line, depth, words, form):
    """The row of a draw or a test with this form behind its third word, or None if there is no form."""
    if form is None:
        return None
    if words[0] == "draw":
        return Row(line, depth, "draw", name=words[1], form=form)
    return Row(line, depth, "if", name=words[1], sign=words[2], form=form)


def is_draw(words):
    """Whether these words begin like `draw NAME below`, with more behind them."""
    return len(words) > 3 and words[0] == "draw" and is_name(words[1]) and words[2] == "below"


def is_test(words):
    """Whether these words begin like the test of a name, with more behind them."""
    return len(words) > 3 and words[0] == "if" and is_name(words[1]) and words[2] in ("<", "is")


def read_else(line, depth, words):
    """The row of `else`, or None."""
    return Row(line, depth, "else") if len(words) == 1 else None


def read_one_place(line, depth, words):
    """The row of a word and a place behind it, or None."""
    spots = read_spots(words[1:])
    return Row(line, depth, words[0], spots=spots) if spots is not None and len(spots) == 1 else None


def read_two_places(line, depth, words):
    """The row of a word and two places behind it, or None."""
    spots = read_spots(words[1:])
    return Row(line, depth, words[0], spots=spots) if spots is not None and len(spots) == 2 else None


def read_exchange(line, depth, words):
    """The row of a word and two places behind it, the second one above the first, or None."""
    row = read_two_places(line, depth, words)
    return row if row is not None and row.spots[0] < row.spots[1] else None


def read_draw(line, depth, words):
    """The row of `draw NAME below FORM`, or None."""
    form = read_form(" ".join(words[3:])) if is_draw(words) else None
    return read_named(line, depth, words, form)


def read_if(line, depth, words):
    """The row of `if TEST`, or None; numbers count as forms."""
    rest = " ".join(words[3:])
    if words[:2] == ["if", "n"] and words[2:3] in (["<"], ["is"]):
        number = read_whole(rest, 1, MOST_COMPARED)
    elif not is_test(words):
        return None
    elif words[2] == "<":
        return read_named(line, depth, words, read_form(rest))
    else:
        number = read_whole(rest, 0, 9)
    return read_named(line, depth, words, None if number is None else (0, number))


READERS = {
    "draw": read_draw, "if": read_if, "else": read_else, "put": read_one_place, "empty": read_one_place,
    "exchange": read_exchange
}


def read_sampler_row(line, depth, words):
    """The row of these words in a sampler's program, or None."""
    if words[0] not in READERS:
        return None
    reader = READERS[words[0]]
    return reader(line, depth, words)
