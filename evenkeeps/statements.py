"""The lines of a sampler's program."""

from evenkeeps.forms import read_form
from evenkeeps.programs import Row, is_name, is_nested_well, read_depth, read_spots
from evenkeeps.wholes import read_whole

MOST_COMPARED = 12


def read_draw(line, depth, words):
    """The row of `draw NAME below FORM`, or None."""
    if len(words) < 4 or not is_name(words[1]) or words[2] != "below":
        return None
    form = read_form(" ".join(words[3:]))
    if form is None:
        return None
    return Row(line, depth, "draw", name=words[1], form=form)


def read_compared(name, sign, text):
    """The form with which a test compares, or None; numbers count as forms."""
    if name == "n":
        number = read_whole(text, 1, MOST_COMPARED)
    elif sign == "is":
        number = read_whole(text, 0, 9)
    else:
        return read_form(text)
    return None if number is None else (0, number)


def read_if(line, depth, words):
    """The row of `if TEST`, or None."""
    if len(words) < 4 or words[2] not in ("<", "is"):
        return None
    if words[1] != "n" and not is_name(words[1]):
        return None
    form = read_compared(words[1], words[2], " ".join(words[3:]))
    if form is None:
        return None
    return Row(line, depth, "if", name=words[1], sign=words[2], form=form)


def read_else(line, depth, words):
    """The row of `else`, or None."""
    return Row(line, depth, "else") if len(words) == 1 else None


def read_move(line, depth, words):
    """The row of `put P`, `empty P` or `exchange P Q`, or None."""
    spots = read_spots(words[1:])
    if spots is None or len(spots) != (2 if words[0] == "exchange" else 1):
        return None
    if len(spots) == 2 and spots[0] >= spots[1]:
        return None
    return Row(line, depth, words[0], spots=spots)


READERS = {
    "draw": read_draw, "if": read_if, "else": read_else, "put": read_move, "exchange": read_move, "empty": read_move
}


def read_row(line, text):
    """The row of the line with this number and this text, or None."""
    depth = read_depth(text)
    words = text.lstrip(" ").split(" ")
    if depth is None or words[0] not in READERS:
        return None
    reader = READERS[words[0]]
    return reader(line, depth, words)


def read_rows(lines):
    """The rows of the lines of a sampler's text, the first of them left out, or None."""
    rows = [read_row(line, text) for line, text in enumerate(lines) if line > 0]
    if any([row is None for row in rows]) or not is_nested_well(rows):
        return None
    return rows
