"""A second, slow account of samplers that goes through all draws one by one. Only for tests."""

from fractions import Fraction


def parse(text):
    """The number of places and the tree of the statements: lists of [words, body, other body]."""
    lines = text.split("\n")
    root = []
    stack = [root]
    for line in lines[1:]:
        depth = (len(line) - len(line.lstrip())) // 2
        words = line.split()
        del stack[depth + 1:]
        if words == ["else"]:
            stack.append(stack[depth][-1][2])
        else:
            node = [words, [], []]
            stack[depth].append(node)
            stack.append(node[1])
    return int(lines[0].split()[1]), root


def worth(words, n):
    """The value of the form that is written in these words."""
    return eval(" ".join(words), {"n": n})


def runs(program, n, places):
    """All ways to draw: (chance of these draws, the turns taken at the tests, the moves)."""
    out = []

    def go(todo, chance, drawn, turns, moves):
        if not todo:
            out.append((chance, turns, tuple(moves)))
            return
        (words, body, other), rest = todo[0], todo[1:]
        if words[0] == "draw":
            bound = worth(words[3:], n)
            for number in range(bound):
                go(rest, chance / bound, {**drawn, words[1]: number}, turns, moves)
        elif words[0] == "if":
            left = n if words[1] == "n" else drawn[words[1]]
            right = worth(words[3:], n)
            if words[2] == "<":
                turn = 0 if left < right else 1
            else:
                turn = 0 if left == right else 1 if left < right else 2
            go((body if turn == 0 else other) + rest, chance, drawn, turns + (turn,), moves)
        else:
            go(rest, chance, drawn, turns, moved(words, moves))

    go(program, Fraction(1), {}, (), list(range(places)))
    return out


def moved(words, moves):
    moves = list(moves)
    spots = [int(word) for word in words[1:]]
    if words[0] == "put":
        if "new" in moves:
            moves[moves.index("new")] = None
        moves[spots[0]] = "new"
    elif words[0] == "empty":
        moves[spots[0]] = None
    else:
        moves[spots[0]], moves[spots[1]] = moves[spots[1]], moves[spots[0]]
    return moves


def ways_of(text, n):
    """What the generator `ways` has to give, as a list."""
    places, program = parse(text)
    sums, ends = {}, {}
    for chance, turns, moves in runs(program, n, places):
        sums[turns] = sums.get(turns, 0) + chance
        ends[turns] = moves
    return [((sums[turns].numerator, sums[turns].denominator), ends[turns]) for turns in sorted(sums)]


class Chooser:
    """Writes the text of some sampler; `below` gives the numbers by which it is chosen."""

    def __init__(self, below, most_draws, most_lines):
        self.below = below
        self.most_draws = most_draws
        self.most_lines = most_lines
        self.places = 1 + below(3)
        self.lines = [f"places {self.places}"]
        self.fresh = list("abcdef")

    def form(self, least):
        factor, summand = self.below(4), self.below(19) - 9
        while least is not None and factor + summand < least:
            factor, summand = self.below(4), self.below(19) - 9
        if factor == 0:
            return str(summand)
        letter = "n" if factor == 1 else f"{factor}*n"
        return letter if summand == 0 else f"{letter} {'-' if summand < 0 else '+'} {abs(summand)}"

    def move(self):
        spot = self.below(self.places)
        choice = self.below(4)
        if choice == 0:
            return f"empty {spot}"
        if choice == 1 and self.places > 1:
            other = (spot + 1 + self.below(self.places - 1)) % self.places
            return f"exchange {min(spot, other)} {max(spot, other)}"
        return f"put {spot}"

    def test(self, names):
        chosen = self.below(len(names) + 1)
        if chosen == len(names):
            return f"n {('<', 'is')[self.below(2)]} {1 + self.below(12)}"
        if self.below(2):
            return f"{names[chosen]} is {self.below(10)}"
        return f"{names[chosen]} < {self.form(None)}"

    def block(self, depth, names, drawn):
        """Writes the lines of a body; `names` can be tested in it, `drawn` is the number of draws so far."""
        pad = "  " * depth
        first = True
        while first or (len(self.lines) < self.most_lines and self.below(4)):
            first = False
            choice = self.below(8)
            if choice < 2 and drawn < self.most_draws and self.fresh:
                name = self.fresh.pop(0)
                names = names + [name]
                drawn += 1
                self.lines.append(f"{pad}draw {name} below {self.form(1)}")
            elif choice < 6 and depth < 4 and len(self.lines) < self.most_lines:
                self.lines.append(f"{pad}if {self.test(names)}")
                most = self.block(depth + 1, names, drawn)
                if self.below(2):
                    self.lines.append(f"{pad}else")
                    most = max(most, self.block(depth + 1, names, drawn))
                drawn = max(drawn, most)
            else:
                self.lines.append(f"{pad}{self.move()}")
        return drawn


def random_text(below, most_draws=2, most_lines=14):
    chooser = Chooser(below, most_draws, most_lines)
    chooser.block(0, [], 0)
    return "\n".join(chooser.lines)
