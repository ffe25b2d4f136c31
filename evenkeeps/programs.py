"""Programs as rows, one for each line, and as trees of statements."""

from evenkeeps.errors import BelowOne, DrawnTwice, NotDrawn, TooMuch, UnknownPlace
from evenkeeps.forms import form_at
from evenkeeps.limits import MOST_DRAWS, MOST_NESTED, MOST_ON_A_WAY, MOST_STATEMENTS
from evenkeeps.wholes import read_whole

HEADS = ("if", "else")
MOST_LETTERS = 8
NO_NAMES = (
    "n", "m", "is", "if", "else", "draw", "below", "put", "exchange", "empty", "places", "take", "other", "join"
)


class Row:
    """A line of a program: its number, its depth, its first word, and what its other words say.

    `name`, `sign` and `form` belong to draws and tests, `spots` are the places that are named.
    """

    def __init__(self, line, depth, kind, name=None, sign=None, form=None, spots=()):
        self.line = line
        self.depth = depth
        self.kind = kind
        self.name = name
        self.sign = sign
        self.form = form
        self.spots = spots


def is_letters(word):
    """Whether it consists of one to eight letters from a to z."""
    return word.isascii() and word.isalpha() and word.islower() and len(word) <= MOST_LETTERS


def is_name(word):
    """Whether numbers that are drawn can have this name."""
    return is_letters(word) and word not in NO_NAMES


def read_depth(line):
    """How deep a line is indented, two blanks for each level, or None."""
    blanks = len(line) - len(line.lstrip(" "))
    return blanks // 2 if blanks % 2 == 0 else None


def read_spots(words):
    """The tuple of the places that are named by one digit each, or None."""
    spots = [read_whole(word, 0, 9) for word in words]
    if any([spot is None for spot in spots]):
        return None
    return tuple(spots)


def is_nested_well(rows):
    """Whether each `if` and `else` has a body, each `else` its `if`, and no other line is indented more."""
    # The first words of the latest rows, one for each depth, down to the row just seen.
    latest = []
    for row in rows:
        if latest and latest[-1] in HEADS:
            fits = row.depth == len(latest) and row.kind != "else"
        elif row.kind == "else":
            fits = row.depth < len(latest) and latest[row.depth] == "if"
        else:
            fits = row.depth < max(1, len(latest))
        if not fits:
            return False
        latest = latest[:row.depth] + [row.kind]
    return not latest or latest[-1] not in HEADS


def count_statements(rows):
    """The number of the statements; an `else` belongs to its `if`."""
    return len([row for row in rows if row.kind != "else"])


def check_amounts(rows):
    """Raises TooMuch if there is more in the program than is allowed, whatever its ways are."""
    if count_statements(rows) > MOST_STATEMENTS:
        raise TooMuch("statements")
    if len([row for row in rows if row.kind == "draw"]) > MOST_DRAWS:
        raise TooMuch("draws")
    if any([row.depth > MOST_NESTED for row in rows if row.kind != "else"]):
        raise TooMuch("nested")


def check_spots(rows, places):
    """Raises UnknownPlace with the first line that names a place too high."""
    for row in rows:
        if any([spot >= places for spot in row.spots]):
            raise UnknownPlace(row.line)


def nested(rows, depth=0):
    """The tuple of the statements at this depth: triples (row, body, body of the else)."""
    starts = [at for at in range(len(rows)) if rows[at].depth == depth]
    ends = starts[1:] + [len(rows)]
    out = []
    for start, end in zip(starts, ends):
        body = nested(rows[start + 1:end], depth + 1)
        if rows[start].kind == "else":
            row, taken, none = out[-1]
            out[-1] = (row, taken, body)
        else:
            out.append((rows[start], body, ()))
    return tuple(out)


class Survey:
    """What may have been drawn when some statements are done, over all ways through them."""

    def __init__(self, always, ever, most):
        # The names that each way has drawn, those that some way has, and the most draws on one way.
        self.always = always
        self.ever = ever
        self.most = most
        # The lines with a test too early, or with a draw too many.
        self.early = []
        self.again = []

    def follow(self, program):
        """Goes on through these statements."""
        for row, body, otherwise in program:
            if row.kind == "draw":
                self.note_draw(row)
            elif row.kind == "if":
                self.note_test(row)
                self.fork(body, otherwise)

    def note_draw(self, row):
        """Goes on behind a draw."""
        if row.name in self.ever:
            self.again.append(row.line)
        self.always = self.always + (row.name,)
        self.ever = self.ever + (row.name,)
        self.most = self.most + 1

    def note_test(self, row):
        """Looks at the test of an `if`."""
        if row.name != "n" and row.name not in self.always:
            self.early.append(row.line)

    def fork(self, body, otherwise):
        """Goes on behind an `if`, through either body."""
        one = Survey(self.always, self.ever, self.most)
        one.follow(body)
        two = Survey(self.always, self.ever, self.most)
        two.follow(otherwise)
        self.always = tuple([name for name in one.always if name in two.always])
        self.ever = one.ever + tuple([name for name in two.ever if name not in one.ever])
        self.most = max(one.most, two.most)
        self.early = self.early + one.early + two.early
        self.again = self.again + one.again + two.again


def built(rows, places):
    """The pair (tree, survey) of a program; raises the errors about all but its forms and the draws on a way."""
    check_amounts(rows)
    check_spots(rows, places)
    program = nested(rows)
    return (program, surveyed(program))


def surveyed(program):
    """The survey of a whole program; raises NotDrawn or DrawnTwice with the first line of this kind."""
    survey = Survey((), (), 0)
    survey.follow(program)
    if len(survey.early) > 0:
        raise NotDrawn(min(survey.early))
    if len(survey.again) > 0:
        raise DrawnTwice(min(survey.again))
    return survey


def check_below(rows, least):
    """Raises BelowOne with the first line in which nothing can be drawn for some n, the least n being this one."""
    for row in rows:
        # No form falls, so it is least for the least n; for a join, for the least m and n.
        if row.kind == "draw" and form_at(row.form, least) < 1:
            raise BelowOne(row.line)


def check_most(survey):
    """Raises TooMuch if too many names are drawn on some way."""
    if survey.most > MOST_ON_A_WAY:
        raise TooMuch("way")
