"""The lines of a join's program."""

from evenkeeps.forms import read_join_form
from evenkeeps.statements import is_draw, is_test, read_else, read_exchange, read_named, read_two_places
from evenkeeps.wholes import read_whole


def read_join_draw(line, depth, words):
    """The row of `draw NAME below FORM`, or None."""
    form = read_join_form(" ".join(words[3:])) if is_draw(words) else None
    return read_named(line, depth, words, form)


def read_join_if(line, depth, words):
    """The row of `if TEST`, or None; numbers count as forms."""
    if not is_test(words):
        return None
    rest = " ".join(words[3:])
    if words[2] == "<":
        return read_named(line, depth, words, read_join_form(rest))
    number = read_whole(rest, 0, 9)
    return read_named(line, depth, words, None if number is None else (0, 0, number))


def read_join_row(line, depth, words):
    """The row of these words in a join's program, or None."""
    if words[0] == "draw":
        return read_join_draw(line, depth, words)
    if words[0] == "if":
        return read_join_if(line, depth, words)
    if words[0] == "else":
        return read_else(line, depth, words)
    if words[0] == "take":
        return read_two_places(line, depth, words)
    return read_exchange(line, depth, words) if words[0] in ("exchange", "other") else None
