"""Programs that are done with draws that are handed in."""

from evenkeeps.errors import InvalidDraws
from evenkeeps.forms import form_at
from evenkeeps.paths import holds, moved
from evenkeeps.wholes import is_between


def walked(program, places, n, draws):
    """How far these draws lead at the step n: a pair (bound, moves), draws that are too many being passed over.

    `bound` is what the next number has to be drawn below, None at the end of the program.
    """
    todo = program
    drawn = {}
    moves = tuple(range(places))
    while len(todo) > 0:
        row, body, otherwise = todo[0]
        todo = todo[1:]
        if row.kind == "if":
            number = n if row.name == "n" else drawn[row.name]
            todo = (body if holds(row, number, n) else otherwise) + todo
        elif row.kind != "draw":
            moves = moved(row, moves)
        elif len(drawn) == len(draws):
            return (form_at(row.form, n), moves)
        else:
            drawn[row.name] = draws[len(drawn)]
    return (None, moves)


def moves_with(program, places, n, draws):
    """The moves of the step n with these draws; raises InvalidDraws with the index of the first one that is wrong."""
    bound, moves = walked(program, places, n, ())
    for index, number in enumerate(draws):
        if bound is None or not is_between(number, 0, bound - 1):
            raise InvalidDraws(index)
        bound, moves = walked(program, places, n, draws[:index + 1])
    if bound is not None:
        raise InvalidDraws(len(draws))
    return moves
