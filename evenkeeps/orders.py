"""Whether the tests of a join are settled: whether its forms stand in one order while m and n grow in step."""

from evenkeeps.errors import Unsettled


def check_settled(program):
    """Raises Unsettled with the first line whose test is not settled on some way."""
    compared, lines = followed(program, {})
    if len(lines) > 0:
        raise Unsettled(min(lines))


def followed(program, compared):
    """A pair: for each name the forms with which it can have been compared after these statements, and wrong lines.

    `compared` are those before them. The form below which a name is drawn counts as the first of its forms.
    """
    lines = []
    for row, body, otherwise in program:
        if row.kind == "draw":
            compared = {**compared, row.name: (row.form,)}
        elif row.kind == "if":
            # A number C stands for C + 1, too: neither of them grows or falls, so they cross the same forms, none.
            if any([is_crossed(row.form, past) for past in compared[row.name]]):
                lines.append(row.line)
            before = {**compared, row.name: united(compared[row.name], (row.form,))}
            one, one_lines = followed(body, before)
            other, other_lines = followed(otherwise, before)
            compared = {name: united(one.get(name, ()), other.get(name, ())) for name in list(one) + list(other)}
            lines = lines + one_lines + other_lines
    return (compared, lines)


def united(forms, others):
    """The forms of both tuples, each once."""
    return forms + tuple([form for form in others if form not in forms])


def is_crossed(one, other):
    """Whether the difference of two forms grows with one of m and n and falls with the other one."""
    return (one[0] - other[0]) * (one[1] - other[1]) < 0
