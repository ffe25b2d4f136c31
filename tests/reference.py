"""A second, slow account of samplers that goes through all draws one by one. Only for tests."""

from fractions import Fraction
from itertools import permutations


def parse(text):
    """The number of places and the tree of the statements: lists of [words, body, other body]."""
    lines = text.split("\n")
    root = []
    stack = [root]
    for line in lines[1:]:
        depth = (len(line) - len(line.lstrip())) // 2
        words = line.split()
        del stack[depth + 1:]
        if words == ["else"]:
            stack.append(stack[depth][-1][2])
        else:
            node = [words, [], []]
            stack[depth].append(node)
            stack.append(node[1])
    return int(lines[0].split()[1]), root


def worth(words, n):
    """The value of the form that is written in these words; for a join, n is a pair (m, n)."""
    numbers = {"m": n[0], "n": n[1]} if isinstance(n, tuple) else {"n": n}
    return eval(" ".join(words), numbers)


def runs(program, n, places):
    """All ways to draw: (chance of these draws, the turns taken at the tests, the moves, the numbers drawn)."""
    out = []

    def go(todo, chance, drawn, turns, moves):
        if not todo:
            out.append((chance, turns, tuple(moves), tuple(drawn.values())))
            return
        (words, body, other), rest = todo[0], todo[1:]
        if words[0] == "draw":
            bound = worth(words[3:], n)
            for number in range(bound):
                go(rest, chance / bound, {**drawn, words[1]: number}, turns, moves)
        elif words[0] == "if":
            left = n if words[1] == "n" else drawn[words[1]]
            right = worth(words[3:], n)
            if words[2] == "<":
                turn = 0 if left < right else 1
            else:
                turn = 0 if left == right else 1 if left < right else 2
            go((body if turn == 0 else other) + rest, chance, drawn, turns + (turn,), moves)
        else:
            go(rest, chance, drawn, turns, moved(words, moves))

    go(program, Fraction(1), {}, (), list(range(places)))
    return out


def moved(words, moves):
    moves = list(moves)
    spots = [int(word) for word in words[1:]]
    if words[0] == "put":
        if "new" in moves:
            moves[moves.index("new")] = None
        moves[spots[0]] = "new"
    elif words[0] == "empty":
        moves[spots[0]] = None
    elif words[0] == "take":
        half = len(moves) // 2
        moves[spots[0]], moves[half + spots[1]] = moves[half + spots[1]], None
    elif words[0] == "other":
        half = len(moves) // 2
        moves[half + spots[0]], moves[half + spots[1]] = moves[half + spots[1]], moves[half + spots[0]]
    else:
        moves[spots[0]], moves[spots[1]] = moves[spots[1]], moves[spots[0]]
    return moves


def ways_of(text, n):
    """What the generator `ways` has to give, as a list."""
    places, program = parse(text)
    sums, ends = {}, {}
    for chance, turns, moves, draws in runs(program, n, places):
        sums[turns] = sums.get(turns, 0) + chance
        ends[turns] = moves
    return [((sums[turns].numerator, sums[turns].denominator), ends[turns]) for turns in sorted(sums)]


def after(row, moves, item):
    """The row behind these moves."""
    return tuple(item if thing == "new" else None if thing is None else row[thing] for thing in moves)


def runs_of(text, length):
    """All pairs (draws, row) for a length, each draw of each item one by one."""
    places, program = parse(text)
    rows = [((), (None,) * places)]
    for n in range(1, length + 1):
        steps = runs(program, n, places)
        rows = [(past + (draws,), after(row, moves, n)) for past, row in rows for chance, turns, moves, draws in steps]
    return rows


def walk_rows(text, length):
    """The dict {row: chance} from going through all draws, each whole row of draws by itself."""
    places, program = parse(text)
    rows = [(Fraction(1), (None,) * places)]
    for n in range(1, length + 1):
        steps = runs(program, n, places)
        rows = [(share * chance, after(row, moves, n)) for share, row in rows for chance, turns, moves, draws in steps]
    out = {}
    for chance, row in rows:
        out[row] = out.get(row, 0) + chance
    return out


def costs_of(text, n):
    """The draws and the writes of a step."""
    places, program = parse(text)
    draws = writes = Fraction(0)
    for chance, turns, moves, drawn in runs(program, n, places):
        draws += chance * len(drawn)
        writes += chance * ("new" in moves)
    return draws, writes


def join_runs(text, m, n):
    """All (chance, moves, draws) of a join; the places of the second sample come behind those of the first one."""
    places, program = parse(text)
    return [(chance, moves, draws) for chance, turns, moves, draws in runs(program, (m, n), 2 * places)]


def patterns_of(text, m, n):
    """The dict {pattern: chance} of a join."""
    places = int(text.split()[1])
    out = {}
    for chance, moves, draws in join_runs(text, m, n):
        pattern = tuple(None if thing is None else 0 if thing < places else 1 for thing in moves[:places])
        out[pattern] = out.get(pattern, 0) + chance
    return out


def fair_rows_of(text, m, n):
    """The dict {row: chance} of the joined sample of the items ("a", 0) .. and ("b", 0) .., each row by itself."""
    places = int(text.split()[1])
    ones = list(permutations([("a", k) for k in range(m)], places))
    others = list(permutations([("b", k) for k in range(n)], places))
    out = {}
    for chance, moves, draws in join_runs(text, m, n):
        for one in ones:
            for other in others:
                row = after(one + other, moves[:places], None)
                out[row] = out.get(row, 0) + chance / len(ones) / len(others)
    return out


def crossings(text):
    """The lines of a join whose test is not settled on some way, from going through all ways one by one."""
    found = set()
    lines = text.split("\n")
    numbers = iter(range(1, len(lines)))
    root = parse(text)[1]

    def number(program):
        # The lines come in the order of the text; an `else` takes one, too.
        out = []
        for words, body, other in program:
            at = next(numbers)
            body = number(body)
            if other:
                next(numbers)
            out.append((at, words, body, number(other)))
        return out

    def factors(words):
        def at(m, n):
            return eval(" ".join(words), {"m": m, "n": n})
        return at(1, 0) - at(0, 0), at(0, 1) - at(0, 0)

    def go(todo, seen):
        if not todo:
            return
        (at, words, body, other), rest = todo[0], todo[1:]
        if words[0] == "draw":
            return go(rest, seen + [(words[1], factors(words[3:]))])
        if words[0] != "if":
            return go(rest, seen)
        one = factors(words[3:])
        for name, two in seen:
            if name == words[1]:
                across, down = one[0] - two[0], one[1] - two[1]
                if across > 0 > down or across < 0 < down:
                    found.add(at)
        go(body + rest, seen + [(words[1], one)])
        go(other + rest, seen + [(words[1], one)])

    go(number(root), [])
    return sorted(found)


class Walk:
    """Chances for longer rows: all draws of each step one by one, then one row after another."""

    def __init__(self, text):
        self.places, self.program = parse(text)
        self.steps = {}

    def step(self, n):
        """The dict {moves: chance} of a step."""
        if n not in self.steps:
            found = {}
            for chance, turns, moves, draws in runs(self.program, n, self.places):
                found[moves] = found.get(moves, 0) + chance
            self.steps[n] = found
        return self.steps[n]

    def rows(self, length, wanted=None):
        """The dict {row: chance}, in which all items but the wanted ones are left out."""
        rows = {(None,) * self.places: Fraction(1)}
        for n in range(min(wanted) if wanted else 1, length + 1):
            rows = self.led(rows, n, n if wanted is None or n in wanted else None)
        return rows

    def led(self, rows, n, item):
        out = {}
        for row, share in rows.items():
            for moves, chance in self.step(n).items():
                behind = after(row, moves, item)
                out[behind] = out.get(behind, 0) + share * chance
        return out

    def kept(self, length, *items):
        """The chance that all of these items are kept."""
        return sum((chance for row, chance in self.rows(length, items).items() if set(items) <= set(row)), Fraction(0))

    def in_place(self, length, item, place):
        return sum((chance for row, chance in self.rows(length, [item]).items() if row[place] == item), Fraction(0))

    def chances(self, last):
        """Yields (n, {item: list of its chances in the places}) for each length."""
        states = {}
        for n in range(1, last + 1):
            states = {item: self.led(rows, n, None) for item, rows in states.items()}
            states[n] = self.led({(None,) * self.places: Fraction(1)}, n, n)
            yield n, {
                item: [sum(chance for row, chance in rows.items() if row[place] == item) for place in range(self.places)]
                for item, rows in states.items()
            }

    def pairs(self, last):
        """Yields (n, {pair: its chance}) for each length."""
        alone, both = {}, {}
        for n in range(1, last + 1):
            both = {pair: self.led(rows, n, None) for pair, rows in both.items()}
            for item, rows in alone.items():
                both[item, n] = self.led(rows, n, n)
            alone = {item: self.led(rows, n, None) for item, rows in alone.items()}
            alone[n] = self.led({(None,) * self.places: Fraction(1)}, n, n)
            yield n, {
                pair: sum(chance for row, chance in rows.items() if set(pair) <= set(row)) for pair, rows in both.items()
            }

    def first_uneven(self, last, place=None):
        """The least triple up to some length, looked for as the document says it."""
        for n, found in self.chances(last):
            worth = {item: sum(shares) if place is None else shares[place] for item, shares in found.items()}
            for t in range(1, n + 1):
                for u in range(t + 1, n + 1):
                    if worth[t] != worth[u]:
                        return (n, t, u)
        return None

    def first_uneven_pairs(self, last):
        """The least triple up to some length."""
        for n, worth in self.pairs(last):
            found = sorted((one, other) for one in worth for other in worth if one < other and worth[one] != worth[other])
            if found:
                return (n, *found[0])
        return None

    def first_off(self, last, told, since=1):
        """The least pair (n, t) up to some length; told(t, n) is the chance that a formula tells, or None."""
        for n, found in self.chances(last):
            for t in range(1, n + 1):
                if n >= since and sum(found[t]) != told(t, n):
                    return (n, t)
        return None

    def first_apart(self, other, last):
        """The least triple up to some length; other is another walk."""
        for (n, found), (same, others) in zip(self.chances(last), other.chances(last)):
            for t in range(1, n + 1):
                for place in range(self.places):
                    if found[t][place] != others[t][place]:
                        return (n, t, place)
        return None

    def alike_in_pairs(self, other, last):
        return all(found == others for found, others in zip(self.pairs(last), other.pairs(last)))


class Chooser:
    """Writes the text of some sampler; `below` gives the numbers by which it is chosen."""

    def __init__(self, below, most_draws, most_lines):
        self.below = below
        self.most_draws = most_draws
        self.most_lines = most_lines
        self.places = 1 + below(3)
        self.lines = [f"places {self.places}"]
        self.fresh = list("abcdef")

    def form(self, least):
        factor, summand = self.below(4), self.below(19) - 9
        while least is not None and factor + summand < least:
            factor, summand = self.below(4), self.below(19) - 9
        if factor == 0:
            return str(summand)
        letter = "n" if factor == 1 else f"{factor}*n"
        return letter if summand == 0 else f"{letter} {'-' if summand < 0 else '+'} {abs(summand)}"

    def move(self):
        spot = self.below(self.places)
        choice = self.below(4)
        if choice == 0:
            return f"empty {spot}"
        if choice == 1 and self.places > 1:
            other = (spot + 1 + self.below(self.places - 1)) % self.places
            return f"exchange {min(spot, other)} {max(spot, other)}"
        return f"put {spot}"

    def can_test(self, names):
        return True

    def test(self, names):
        chosen = self.below(len(names) + 1)
        if chosen == len(names):
            return f"n {('<', 'is')[self.below(2)]} {1 + self.below(12)}"
        if self.below(2):
            return f"{names[chosen]} is {self.below(10)}"
        return f"{names[chosen]} < {self.form(None)}"

    def block(self, depth, names, drawn):
        """Writes the lines of a body; `names` can be tested in it, `drawn` is the number of draws so far."""
        pad = "  " * depth
        first = True
        while first or (len(self.lines) < self.most_lines and self.below(4)):
            first = False
            choice = self.below(8)
            if choice < 2 and drawn < self.most_draws and self.fresh:
                name = self.fresh.pop(0)
                names = names + [name]
                drawn += 1
                self.lines.append(f"{pad}draw {name} below {self.form(1)}")
            elif choice < 6 and depth < 4 and len(self.lines) < self.most_lines and self.can_test(names):
                self.lines.append(f"{pad}if {self.test(names)}")
                most = self.block(depth + 1, names, drawn)
                if self.below(2):
                    self.lines.append(f"{pad}else")
                    most = max(most, self.block(depth + 1, names, drawn))
                drawn = max(drawn, most)
            else:
                self.lines.append(f"{pad}{self.move()}")
        return drawn


def random_text(below, most_draws=2, most_lines=14):
    chooser = Chooser(below, most_draws, most_lines)
    chooser.block(0, [], 0)
    return "\n".join(chooser.lines)


class JoinChooser(Chooser):
    """Writes the text of some join, which need not be settled."""

    def __init__(self, below, most_draws, most_lines):
        super().__init__(below, most_draws, most_lines)
        self.lines = [f"join {self.places}"]

    def form(self, least):
        while True:
            first, second, summand = self.below(4), self.below(4), self.below(19) - 9
            if least is None or (first + second) * self.places + summand >= least:
                break
        parts = [letter if factor == 1 else f"{factor}*{letter}" for factor, letter in ((first, "m"), (second, "n")) if factor]
        if not parts:
            return str(summand)
        text = " + ".join(parts)
        return text if summand == 0 else f"{text} {'-' if summand < 0 else '+'} {abs(summand)}"

    def move(self):
        spot = self.below(self.places)
        if self.places > 1 and self.below(2):
            other = (spot + 1 + self.below(self.places - 1)) % self.places
            return f"{('exchange', 'other')[self.below(2)]} {min(spot, other)} {max(spot, other)}"
        return f"take {spot} {self.below(self.places)}"

    def can_test(self, names):
        return len(names) > 0

    def test(self, names):
        chosen = names[self.below(len(names))]
        return f"{chosen} is {self.below(10)}" if self.below(2) else f"{chosen} < {self.form(None)}"


def random_join(below, most_draws=2, most_lines=14):
    chooser = JoinChooser(below, most_draws, most_lines)
    chooser.block(0, [], 0)
    return "\n".join(chooser.lines)
