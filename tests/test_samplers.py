import unittest

from evenkeeps.errors import BelowOne, DrawnTwice, InvalidText, NotDrawn, TooMuch, UnknownPlace
from evenkeeps.forms import form_at, form_text, read_form
from evenkeeps.samplers import Sampler, ways
from tests.reference import random_text
from tests.support import ODD, caught, steps, text_of
from tests.texts import PAIR

RESERVED = (
    "n", "m", "is", "if", "else", "draw", "below", "put", "exchange", "empty", "places", "take", "other", "join",
)


def all_forms():
    """The pairs (form, text) for all forms, written out here once more."""
    for b in range(-9, 10):
        yield (0, b), str(b)
    for a, letter in ((1, "n"), (2, "2*n"), (3, "3*n")):
        yield (a, 0), letter
        for b in range(1, 10):
            yield (a, b), f"{letter} + {b}"
            yield (a, -b), f"{letter} - {b}"


NO_FORMS = (
    "", " ", "-", "+", "10", "-10", "12", "99", "00", "01", "07", "-0", "-01", "+1", "--1", "- 1", "1.0", "1_0", "five",
    "0*n", "1*n", "4*n", "5*n", "-n", "-1*n", "-2*n", "10*n", "02*n", "2n", "n*2", "2 * n", "2* n", "2 *n", "2*N", "N",
    "m", "2*m", "m + n", "n + m", "n + n", "2*n + n", "n*n", "n^2", "n**2", "n + 0", "n - 0", "2*n + 0", "n + 10",
    "n - 10", "3*n + 12", "n + 01", "n + -1", "n - -1", "n + +1", "n+1", "n-1", "n +1", "n+ 1", "n  + 1", "n +  1",
    "n + 1 ", " n + 1", "n +", "n + ", "n -", "+ n", "1 + n", "1 - n", "0 + n", "n + 1 + 1", "n + 1 - 1", "(n)", "n/2",
    "n // 2", "n 1", "n n", "1 1", "?", "r", "n,", "n\t+ 1", "n +\t1", "2*n+3", "3 * n - 1", "n + one", "2*n*2",
)


class Forms(unittest.TestCase):
    def test_all_forms(self):
        rows = list(all_forms())
        self.assertEqual(len(rows), 76)
        self.assertEqual(len({text for form, text in rows}), 76)
        for form, text in rows:
            self.assertEqual(form_text(form), text)
            self.assertEqual(read_form(text), form)
            for n in (1, 2, 19, 60):
                self.assertEqual(form_at(form, n), eval(text, {"n": n}))

    def test_behind_less(self):
        for (a, b), text in all_forms():
            with self.subTest(text):
                sampler = Sampler(text_of("draw r below 3*n + 9", f"if r < {text}", "  put 0", places=1))
                for n in (1, 2, 7, 19, 60):
                    bound = 3 * n + 9
                    part = max(0, min(a * n + b, bound))
                    found = {moves: above / below for (above, below), moves in ways(sampler, n)}
                    self.assertAlmostEqual(found.get(("new",), 0), part / bound)
                    self.assertAlmostEqual(found.get((0,), 0), 1 - part / bound)

    def test_behind_below(self):
        for (a, b), text in all_forms():
            with self.subTest(text):
                whole = text_of(f"draw r below {text}", "if r is 0", "  put 0", places=1)
                if a + b < 1:
                    self.assertEqual(caught(self, BelowOne, Sampler, whole).line, 1)
                else:
                    for n in (1, 5, 60):
                        bound = a * n + b
                        expected = [((1, bound), ("new",)), ((bound - 1, bound), (0,))]
                        self.assertEqual(list(ways(Sampler(whole), n)), expected if bound > 1 else expected[:1])

    def test_writings_near_them(self):
        for text in NO_FORMS:
            with self.subTest(text):
                for whole in (
                    text_of(f"draw r below {text}"),
                    text_of("draw r below n", f"if r < {text}", "  put 0"),
                ):
                    self.assertEqual(caught(self, InvalidText, Sampler, whole).value, whole)


class Lines(unittest.TestCase):
    def refuse(self, text):
        with self.subTest(text):
            self.assertIs(caught(self, InvalidText, Sampler, text).value, text)
            self.assertIs(caught(self, InvalidText, Sampler, text=text).value, text)

    def test_things_that_are_no_strings(self):
        for wrong in (None, 0, 1, True, b"places 1", (), ("places 1",), ["places 1"], {"places": 1}, ODD, Sampler, str):
            self.refuse(wrong)
        self.refuse(Sampler("places 1"))

    def test_first_lines(self):
        for places in (1, 2, 3):
            self.assertEqual(Sampler(f"places {places}").places, places)
        for first in (
            "", " ", "places", "places ", "places 0", "places 4", "places 5", "places 9", "places 10", "places 12",
            "places 01", "places 1 ", " places 1", "  places 1", "places  1", "places 1 2", "places -1", "places +1",
            "places one", "places k", "places K", "Places 1", "PLACES 1", "place 1", "placess 1", "places1", "places\t1",
            "places 1.0", "join 1", "put 0", "1", "places n", "places 1,", "draw r below n", "else", "places True",
        ):
            self.refuse(first)
            self.refuse(f"{first}\nput 0")
        self.refuse("\nplaces 1")
        self.refuse("put 0\nplaces 1")
        self.refuse("places 1\nplaces 1")

    def test_line_ends(self):
        for text in (
            "places 1\n", "places 1\n\n", "places 1\nput 0\n", "places 1\n\nput 0", "places 1\n \nput 0", "\n", "\n\n",
            "places 1\nput 0\n\nput 0", "places 1\nput 0\n  ", "places 1\nif n < 3\n  put 0\n", "places 1\r\nput 0",
            "places 1\nput 0\r", "places 1 put 0", "places 1;put 0", "places 1\nput 0; put 0", "places 1\nput 0 put 0",
            "places 1\nif n < 3\n\n  put 0", "places 1\nif n < 3\n  put 0\n\nelse\n  put 0",
        ):
            self.refuse(text)

    def test_names(self):
        for name in (
            "a", "r", "z", "rr", "abcdefgh", "zzzzzzzz", "nn", "mm", "nm", "in", "isa", "iff", "elses", "draws", "puts",
            "place", "takes", "others", "joins", "belows", "emptys", "new", "none", "true", "not", "lambda", "exchang",
        ):
            sampler = Sampler(text_of(f"draw {name} below n", f"if {name} < 2", "  put 0", f"if {name} is 0", "  put 1"))
            self.assertEqual(sampler.names, (name,))
        for name in RESERVED + (
            "", " ", "abcdefghi", "rrrrrrrrrr", "exchanges", "R", "rR", "Rr", "ABC", "r1", "1r", "1", "0", "r_", "_r",
            "_", "r-s", "r.s", "r s", "r,", "r\t", "-r", "?",
        ):
            self.refuse(text_of(f"draw {name} below n"))
            self.refuse(text_of("draw r below n", f"if {name} < n + 1", "  put 0"))
            if name != "n":
                self.refuse(text_of("draw r below n", f"if {name} is 1", "  put 0"))
                self.refuse(text_of("draw r below n", f"if {name} < 1", "  put 0"))

    def test_all_reserved_names_are_reserved(self):
        self.assertEqual(len(RESERVED), 14)
        for name in RESERVED:
            self.refuse(text_of(f"draw {name} below n", "put 0"))

    def test_draws(self):
        for line in (
            "draw", "draw ", "draw r", "draw r ", "draw r below", "draw r below ", "draw below n", "draw r n",
            "draw r below n ", "draw  r below n", "draw r  below n", "draw r below  n", "draw r Below n", "Draw r below n",
            "DRAW r below n", "draw r under n", "draw r < n", "draw r is 3", "draw r, s below n", "draw r s below n",
            "drawr below n", "draw rbelow n", "draw r belown", "draw r below n put 0", "draw r below below n",
            "draw\tr below n", "draw r below n:", "r below n", "if draw r below n",
        ):
            self.refuse(text_of(line))

    def test_tests_of_names(self):
        for number in range(10):
            sampler = Sampler(text_of("draw r below 3*n + 9", f"if r is {number}", "  put 0"))
            self.assertEqual(sum(moves[0] == "new" for chance, moves in ways(sampler, 1)), 1)
        for test in (
            "r is 10", "r is 12", "r is -1", "r is -0", "r is 00", "r is 01", "r is n", "r is n + 1", "r is", "r is ",
            "r is r", "r is  1", "r  is 1", "r is 1 ", "r is not 1", "r == 1", "r = 1", "r <= 1", "r > 1", "r >= 1",
            "r != 1", "r <", "r < ", "r", "", " ", "r 1", "r < r", "1 < r", "n < r", "0 is r", "r< 1", "r <1", "r<1",
            "r <  1", "r  < 1", "r < 1 ", "not r < 1", "r < 1 and r is 0", "r Is 1", "r IS 1", "r < 1:", "(r < 1)",
            "r is +1", "r is one", "r is 1.0", "is 1", "< 1", "r is is 1", "r < < 1", "r << 1", "r is 1 2",
        ):
            self.refuse(text_of("draw r below n", f"if {test}", "  put 0"))
        for line in ("if", "if ", "If r < 1", "IF r < 1", "ifr < 1", "if  r < 1", "r < 1", "while r < 1", "elif r < 1"):
            self.refuse(text_of("draw r below n", line, "  put 0"))

    def test_tests_of_n(self):
        for sign, first in (("<", lambda n, c: n < c), ("is", lambda n, c: n == c)):
            for number in range(1, 13):
                sampler = Sampler(text_of(f"if n {sign} {number}", "  put 0", places=1))
                for n in (1, 2, 3, 6, 11, 12, 13, 60):
                    expected = ("new",) if first(n, number) else (0,)
                    self.assertEqual(list(ways(sampler, n)), [((1, 1), expected)])
            for number in (
                "0", "13", "14", "20", "100", "-1", "-0", "01", "012", "", " ", "n", "2*n", "n + 1", "n - 1", "m", "r",
                " 3", "3 ", "3 4", "+3", "three", "3.0", "1 + 1",
            ):
                self.refuse(text_of("draw r below n", f"if n {sign} {number}", "  put 0"))
        for test in ("n <= 3", "n > 3", "n == 3", "n = 3", "n", "n 3", "n<3", "n <3", "n< 3", "3 < n", "N < 3", "m < 3"):
            self.refuse(text_of(f"if {test}", "  put 0"))

    def test_moves(self):
        for line in (
            "put", "put ", "put 0 ", "put  0", "put 00", "put 01", "put 10", "put 12", "put -1", "put +1", "put n",
            "put r", "put p", "put 0 1", "put 0, 1", "Put 0", "PUT 0", "put0", "put\t0", "put 0.", "put one", "put new",
            "empty", "empty ", "empty 0 ", "empty  0", "empty 00", "empty 10", "empty -1", "empty n", "empty 0 1",
            "Empty 0", "empty0", "empty p", "exchange", "exchange ", "exchange 0", "exchange 0 ", "exchange 0 1 ",
            "exchange  0 1", "exchange 0  1", "exchange 1 0", "exchange 2 0", "exchange 2 1", "exchange 0 0",
            "exchange 1 1", "exchange 2 2", "exchange 9 9", "exchange 9 8", "exchange 0 10", "exchange 10 11",
            "exchange 00 1", "exchange 0 01", "exchange 0 1 2", "exchange 0, 1", "exchange 0,1", "exchange 0-1",
            "exchange 01", "exchange -1 0", "exchange 0 n", "exchange n 1", "Exchange 0 1", "exchange p q", "exchange01",
            "take 0 1", "take 0 0", "other 0 1", "keep 0", "pass", "0", "put 0 if n < 3", "swap 0 1", "# put 0",
            "put 0 # why", "-", "?", "...", "places 3", "join 3",
        ):
            self.refuse(text_of(line))
            self.refuse(text_of("put 0", line, "put 1"))
            self.refuse(text_of("if n < 3", "  " + line))

    def test_bodies(self):
        for lines in (
            # bodies that are missing
            ["if n < 3"], ["if n < 3", "put 0"], ["put 0", "if n < 3"], ["if n < 3", "else", "  put 0"],
            ["if n < 3", "  put 0", "else"], ["if n < 3", "  put 0", "else", "put 0"],
            ["if n < 3", "  if n < 2", "  put 0"], ["if n < 3", "  if n < 2", "put 0"],
            ["if n < 3", "  if n < 2"], ["if n < 3", "if n < 2", "  put 0"], ["if n < 3", "  put 0", "else", "else", "  put 0"],
            ["if n < 3", "  if n < 2", "    put 0", "  else", "else", "  put 1"],
            ["if n < 3", "  if n < 2", "  else", "    put 1"],
            # too few or too many blanks
            ["if n < 3", " put 0"], ["if n < 3", "   put 0"], ["if n < 3", "    put 0"], ["if n < 3", "      put 0"],
            [" put 0"], ["  put 0"], ["    put 0"], ["put 0", "  put 0"], ["put 0", " put 0"], ["\tput 0"],
            ["if n < 3", "\tput 0"], ["if n < 3", "  put 0", "   put 0"], ["if n < 3", "  put 0", " put 0"],
            ["if n < 3", "  put 0", "    put 0"], ["draw r below n", "  put 0"],
            ["if n < 3", "  if n < 2", "      put 0"], ["if n < 3", "  if n < 2", "    put 0", "      put 0"],
            ["if n < 3", "  if n < 2", "    put 0", "   put 0"], ["if n < 3", "  put 0", "else", "   put 0"],
            ["if n < 3", "  put 0", "else", "    put 0"], ["if n < 3", "  put 0", "else", "  put 0", "    put 1"],
            ["if n < 3", "    put 0", "else", "    put 0"], [" if n < 3", "   put 0"], ["  if n < 3", "    put 0"],
            # an else that has no if
            ["else"], ["else", "  put 0"], ["put 0", "else", "  put 0"], ["  else", "    put 0"],
            ["draw r below n", "else", "  put 0"], ["if n < 3", "  put 0", "put 1", "else", "  put 0"],
            ["if n < 3", "  put 0", "else", "  put 1", "else", "  put 0"], ["if n < 3", "  put 0", " else", "  put 0"],
            ["if n < 3", "  put 0", "  else", "    put 0"], ["if n < 3", "  else", "    put 0"],
            ["if n < 3", "  if n < 2", "    put 0", "    else", "      put 0"],
            ["if n < 3", "  put 0", "else", "  put 1", "  else", "    put 0"],
            ["if n < 3", "  if n < 2", "    put 0", "else", "  put 1", "  else", "    put 0"],
            ["if n < 3", "  put 0", "else", "  if n is 4", "    put 0", "else", "  put 1"],
            # other writings of else
            ["if n < 3", "  put 0", "else ", "  put 0"], ["if n < 3", "  put 0", "else:", "  put 0"],
            ["if n < 3", "  put 0", "Else", "  put 0"], ["if n < 3", "  put 0", "else if n < 5", "  put 0"],
            ["if n < 3", "  put 0", "elif n < 5", "  put 0"], ["if n < 3", "  put 0", "else put 0"],
            ["if n < 3", "  put 0", "else 0", "  put 0"], ["if n < 3 put 0"], ["if n < 3", "  put 0", "else else", "  put 0"],
            ["if n < 3", "  put 0", "ELSE", "  put 0"], ["if n < 3", "  put 0", "else  ", "  put 0"],
            ["if n < 3:", "  put 0"],
        ):
            self.refuse(text_of(*lines))

    def test_bodies_that_are_well_made(self):
        for lines, statements in (
            ([], 0), (["put 0"], 1), (["put 0", "put 0", "empty 0", "exchange 0 1"], 4), (["if n < 3", "  put 0"], 2),
            (["if n < 3", "  put 0", "else", "  put 1"], 3), (["if n < 3", "  put 0", "put 1"], 3),
            (["if n < 3", "  put 0", "if n < 4", "  put 1"], 4), (["if n < 3", "  put 0", "  put 1", "  empty 0"], 4),
            (["if n < 3", "  if n < 2", "    put 0"], 3), (["if n < 3", "  if n < 2", "    put 0", "put 1"], 4),
            (["if n < 3", "  if n < 2", "    put 0", "  else", "    put 1", "else", "  put 2"], 5),
            (["if n < 3", "  if n < 2", "    put 0", "else", "  put 1"], 4),
            (["if n < 3", "  if n < 2", "    put 0", "  else", "    put 1"], 4),
            (["if n < 3", "  put 0", "else", "  if n < 5", "    put 1", "  else", "    put 2"], 5),
            (["if n < 3", "  if n < 2", "    put 0", "  put 1", "else", "  put 2"], 5),
            (["if n < 3", "  if n is 1", "    put 0", "  if n is 2", "    put 1", "  else", "    put 2", "put 0"], 7),
            (["if n < 3", "  put 0", "else", "  put 1", "if n < 5", "  put 0", "else", "  put 1"], 6),
        ):
            with self.subTest(lines):
                self.assertEqual(Sampler(text_of(*lines)).statements, statements)

    def test_to_which_if_an_else_belongs(self):
        inner = Sampler(text_of("if n < 3", "  if n < 2", "    put 0", "  else", "    put 1"))
        outer = Sampler(text_of("if n < 3", "  if n < 2", "    put 0", "else", "  put 1"))
        self.assertEqual([list(ways(inner, n))[0][1] for n in (1, 2, 3)], [("new", 1, 2), (0, "new", 2), (0, 1, 2)])
        self.assertEqual([list(ways(outer, n))[0][1] for n in (1, 2, 3)], [("new", 1, 2), (0, 1, 2), (0, "new", 2)])


class Conditions(unittest.TestCase):
    def line_of(self, kind, *lines, places=3):
        error = caught(self, kind, Sampler, text_of(*lines, places=places))
        self.assertIs(type(error.line), int)
        return error.line

    def too_much(self, *lines, places=3):
        return caught(self, TooMuch, Sampler, text_of(*lines, places=places)).what

    def test_statements(self):
        self.assertEqual(Sampler(text_of(*["put 0"] * 24)).statements, 24)
        self.assertEqual(self.too_much(*["put 0"] * 25), "statements")
        self.assertEqual(self.too_much(*["put 0"] * 40), "statements")
        branch = ["if n < 3", "  put 0", "else", "  put 1"]
        self.assertEqual(Sampler(text_of(*branch * 8)).statements, 24)
        self.assertEqual(self.too_much(*branch * 8, "empty 0"), "statements")
        self.assertEqual(self.too_much(*branch * 7, "put 0", "put 0", *branch[:2]), "statements")
        self.assertEqual(Sampler(text_of(*["if n < 3", "  put 0"] * 12)).statements, 24)
        self.assertEqual(self.too_much(*["if n < 3", "  put 0"] * 12, "exchange 0 1"), "statements")
        one = ["draw r below n"]
        self.assertEqual(Sampler(text_of(*one, *["put 0"] * 23)).statements, 24)
        self.assertEqual(self.too_much(*one, *["put 0"] * 24), "statements")

    def spread(self, count):
        """Lines with so many draws, at most one on a way."""
        lines = []
        for number in range(count):
            lines += [f"if n is {number + 1}", f"  draw {'abcdefgh'[number]} below n"]
        return lines

    def test_draws(self):
        nest = ["if n < 3", "  if n < 2", "    draw a below n", "  else", "    draw b below n", "else",
                "  if n < 5", "    draw c below n", "  else", "    if n < 6", "      draw d below n", "    else",
                "      if n < 7", "        draw e below n", "      else", "        draw f below n"]
        self.assertEqual(Sampler(text_of(*nest)).names, tuple("abcdef"))
        self.assertEqual(self.too_much(*nest, "draw g below n"), "draws")
        same = [line.replace("draw b", "draw a").replace("draw c", "draw a") for line in nest]
        self.assertEqual(Sampler(text_of(*same)).names, tuple("adef"))
        self.assertEqual(self.too_much(*same, "draw g below n"), "draws")
        self.assertEqual(self.too_much(*[f"draw {name} below n" for name in "abcdefg"]), "draws")
        self.assertEqual(self.too_much(*["draw r below n"] * 7), "draws")
        self.assertEqual(self.too_much(*self.spread(7)), "draws")

    def test_six_draws_on_a_way_are_not_too_many_draws(self):
        self.assertEqual(self.too_much(*[f"draw {name} below n" for name in "abcdef"]), "way")
        self.assertEqual(self.too_much(*self.spread(6)), "way")

    def nest(self, depth, last="put 0"):
        return ["  " * level + f"if n < {12 - level}" for level in range(depth)] + ["  " * depth + last]

    def test_nested(self):
        for depth in range(5):
            self.assertEqual(Sampler(text_of(*self.nest(depth))).statements, depth + 1)
        for depth in (5, 6, 9, 12):
            self.assertEqual(self.too_much(*self.nest(depth)), "nested")
        self.assertEqual(self.too_much(*self.nest(4, "if n < 3"), "          put 0"), "nested")
        self.assertEqual(Sampler(text_of(*self.nest(4), "      else", "        put 1")).statements, 6)
        self.assertEqual(
            self.too_much(*self.nest(4), "      else", "        if n < 4", "          put 1"), "nested")
        self.assertEqual(Sampler(text_of(*self.nest(4), *self.nest(4))).statements, 10)
        self.assertEqual(self.too_much("put 0", *self.nest(5, "draw r below n")), "nested")

    def test_deep_texts_are_read(self):
        self.assertEqual(self.too_much(*self.nest(11), *self.nest(11), *self.nest(11)), "statements")
        deep = ["  " * level + "if n < 3" for level in range(45)] + ["  " * 45 + "put 0"]
        self.assertLess(len(text_of(*deep)), 3000)
        self.assertEqual(self.too_much(*deep), "statements")
        caught(self, InvalidText, Sampler, text_of(*deep[:-1]))

    def test_unknown_places(self):
        for places in (1, 2, 3):
            for spot in range(10):
                for word in ("put", "empty"):
                    if spot < places:
                        self.assertEqual(Sampler(text_of(f"{word} {spot}", places=places)).statements, 1)
                    else:
                        self.assertEqual(self.line_of(UnknownPlace, f"{word} {spot}", places=places), 1)
                for other in range(spot + 1, 10):
                    if other < places:
                        self.assertEqual(Sampler(text_of(f"exchange {spot} {other}", places=places)).statements, 1)
                    else:
                        self.assertEqual(self.line_of(UnknownPlace, f"exchange {spot} {other}", places=places), 1)

    def test_the_first_line_with_an_unknown_place(self):
        self.assertEqual(self.line_of(UnknownPlace, "put 0", "put 1", "put 2", places=2), 3)
        self.assertEqual(self.line_of(UnknownPlace, "put 0", "put 9", "put 8", places=2), 2)
        self.assertEqual(self.line_of(UnknownPlace, "if n < 3", "  put 0", "else", "  exchange 0 3", "put 5"), 4)
        self.assertEqual(self.line_of(UnknownPlace, "if n < 3", "  if n < 2", "    empty 3", "else", "  put 4"), 3)

    def test_not_drawn(self):
        self.assertEqual(self.line_of(NotDrawn, "if r < 2", "  put 0"), 1)
        self.assertEqual(self.line_of(NotDrawn, "if r is 2", "  put 0"), 1)
        self.assertEqual(self.line_of(NotDrawn, "if r < 2", "  put 0", "draw r below n"), 1)
        self.assertEqual(self.line_of(NotDrawn, "draw r below n", "if s < 2", "  put 0"), 2)
        self.assertEqual(self.line_of(NotDrawn, "draw r below n", "if r < 2", "  if s < 2", "    put 0"), 3)
        self.assertEqual(self.line_of(NotDrawn, "put 0", "if s < 2", "  put 1", "if r < 2", "  put 0"), 2)

    def test_not_drawn_on_some_way(self):
        part = ["if n < 3", "  draw r below n"]
        test = ["if r is 0", "  put 0"]
        self.assertEqual(self.line_of(NotDrawn, *part, *test), 3)
        self.assertEqual(self.line_of(NotDrawn, *part, "else", "  put 0", *test), 5)
        self.assertEqual(self.line_of(NotDrawn, *part, "else", "  if r < 2", "    put 0"), 4)
        self.assertEqual(self.line_of(NotDrawn, *part, "else", "  draw s below n", *test), 5)
        self.assertEqual(self.line_of(NotDrawn, "if n < 3", "  put 0", "else", "  draw r below n", *test), 5)
        self.assertEqual(Sampler(text_of(*part, "else", "  draw r below 2*n", *test)).names, ("r",))
        self.assertEqual(Sampler(text_of(*part, "  if r < 2", "    put 0")).names, ("r",))

    def test_ways_count_whatever_their_tests_are(self):
        # Each of these ways can never be gone, but that is not asked.
        self.assertEqual(self.line_of(NotDrawn, "if n < 1", "  if r < 2", "    put 0"), 2)
        self.assertEqual(self.line_of(NotDrawn, "if n < 3", "  draw r below n", "if n < 2", "  if r < 2", "    put 0"), 4)
        self.assertEqual(self.line_of(DrawnTwice, "if n < 3", "  draw r below n", "if n is 5", "  draw r below n"), 4)
        self.assertEqual(self.line_of(BelowOne, "if n is 9", "  draw r below n - 1"), 2)
        self.assertEqual(
            self.too_much("draw a below n", "draw b below n", "if n is 1", "  draw c below n", "if n is 2", "  draw d below n"),
            "way")

    def test_drawn_twice(self):
        self.assertEqual(self.line_of(DrawnTwice, "draw r below n", "draw r below n"), 2)
        self.assertEqual(self.line_of(DrawnTwice, "draw r below n", "put 0", "draw r below 3"), 3)
        self.assertEqual(self.line_of(DrawnTwice, "draw r below n", "draw s below n", "draw r below 3", "draw s below n"), 3)
        self.assertEqual(self.line_of(DrawnTwice, "draw r below n", "if r < 2", "  draw r below n"), 3)
        self.assertEqual(self.line_of(DrawnTwice, "draw r below n", "if r < 2", "  put 0", "else", "  draw r below n"), 5)
        self.assertEqual(self.line_of(DrawnTwice, "if n < 3", "  draw r below n", "draw r below n"), 3)
        self.assertEqual(self.line_of(DrawnTwice, "if n < 3", "  put 0", "else", "  draw r below n", "draw r below n"), 5)
        self.assertEqual(
            self.line_of(DrawnTwice, "if n < 3", "  draw r below n", "else", "  draw s below n", "draw s below n"), 5)
        self.assertEqual(
            self.line_of(DrawnTwice, "if n < 3", "  put 0", "else", "  draw s below n", "  draw s below 2", "draw s below n"),
            5)

    def test_a_name_may_be_drawn_on_several_ways(self):
        sampler = Sampler(text_of("if n < 3", "  draw r below n", "else", "  draw r below 2*n", "if r < 2", "  put 0"))
        self.assertEqual(sampler.names, ("r",))
        sampler = Sampler(text_of("if n < 3", "  if n < 2", "    draw r below n", "  else", "    draw r below 3", "else",
                                  "  draw r below 2*n", "if r < 2", "  put 0"))
        self.assertEqual((sampler.names, sampler.statements), (("r",), 7))

    def test_below_one(self):
        for form in ("0", "-1", "-9", "n - 1", "n - 9", "2*n - 2", "2*n - 9", "3*n - 3", "3*n - 9"):
            self.assertEqual(self.line_of(BelowOne, f"draw r below {form}"), 1)
            self.assertEqual(self.line_of(BelowOne, "put 0", "if n < 3", "  draw r below n", "else",
                                          f"  draw r below {form}", "  draw s below 0"), 5)
        for form in ("1", "9", "n", "n + 9", "2*n - 1", "2*n", "3*n - 2", "3*n - 1", "3*n + 9"):
            self.assertEqual(Sampler(text_of(f"draw r below {form}")).names, ("r",))
        self.assertEqual(Sampler(text_of("draw r below 1", "if r < -9", "  put 0")).statements, 3)

    def test_on_a_way(self):
        three = ["draw a below n", "draw b below n", "draw c below n"]
        self.assertEqual(Sampler(text_of(*three)).names, ("a", "b", "c"))
        self.assertEqual(self.too_much(*three, "draw d below n"), "way")
        self.assertEqual(self.too_much(*three, "if n < 3", "  draw d below n"), "way")
        self.assertEqual(self.too_much(*three, "if n < 3", "  put 0", "else", "  draw d below n"), "way")
        split = ["if n < 3", "  draw a below n", "  draw b below n", "else", "  draw c below n"]
        self.assertEqual(Sampler(text_of(*split, "draw d below n")).names, tuple("abcd"))
        self.assertEqual(self.too_much(*split, "draw d below n", "draw e below n"), "way")
        other = ["if n < 3", "  draw c below n", "else", "  draw a below n", "  draw b below n"]
        self.assertEqual(Sampler(text_of(*other, "draw d below n")).names, tuple("abcd"))
        self.assertEqual(self.too_much(*other, "draw d below n", "draw e below n"), "way")
        halves = ["if n < 3", "  draw a below n", "  draw b below n", "  draw c below n", "else",
                  "  draw d below n", "  draw e below n", "  draw f below n"]
        self.assertEqual(Sampler(text_of(*halves)).names, tuple("abcdef"))

    def test_faults_come_in_the_order_of_the_document(self):
        # Each text has all faults that its last error leaves, written in the contrary order of lines.
        way = ["draw a below n", "draw b below n", "draw c below n", "draw d below n"]
        below = ["draw e below 0"]
        twice = ["draw a below 1"]
        early = ["if z < 3", "  put 0"]
        unknown = ["put 8"]
        deep = self.nest(5)
        many = ["draw e below n"] * 3
        long = ["put 1"] * 25
        wrong = ["put 10"]
        self.assertEqual(self.too_much(*way), "way")
        self.assertEqual(self.line_of(BelowOne, *way, *below), 5)
        self.assertEqual(self.line_of(DrawnTwice, *way, *below, *twice), 6)
        self.assertEqual(self.line_of(NotDrawn, *way, *below, *twice, *early), 7)
        self.assertEqual(self.line_of(UnknownPlace, *way, *below, *twice, *early, *unknown), 9)
        self.assertEqual(self.too_much(*way, *below, *twice, *early, *unknown, *deep), "nested")
        self.assertEqual(self.too_much(*way, *below, *twice, *early, *unknown, *deep, *many), "draws")
        self.assertEqual(self.too_much(*way, *below, *twice, *early, *unknown, *deep, *many, *long), "statements")
        whole = text_of(*way, *below, *twice, *early, *unknown, *deep, *many, *long, *wrong)
        self.assertEqual(caught(self, InvalidText, Sampler, whole).value, whole)
        self.assertEqual(caught(self, InvalidText, Sampler, whole.replace("places 3", "places 4")).value[:8], "places 4")

    def test_the_order_does_not_depend_on_the_order_of_the_lines(self):
        self.assertEqual(self.line_of(NotDrawn, "draw r below 0", "draw r below n", "if s < 2", "  put 0"), 3)
        self.assertEqual(self.line_of(DrawnTwice, "draw s below 0", "draw r below n", "draw r below n"), 3)
        self.assertEqual(self.line_of(UnknownPlace, "if s < 2", "  put 0", "put 3"), 3)
        self.assertEqual(self.line_of(BelowOne, *[f"draw {name} below n" for name in "abcde"], "draw f below 0"), 6)
        self.assertEqual(self.line_of(NotDrawn, *[f"draw {name} below n" for name in "abcde"], "if f < 0", "  put 0"), 6)


class Objects(unittest.TestCase):
    def test_the_sampler_of_the_document(self):
        pair = Sampler(PAIR)
        self.assertEqual((pair.places, pair.statements, pair.names), (2, 9, ("r",)))
        self.assertEqual(str(pair), PAIR)
        self.assertEqual(repr(pair), "Sampler(2 places, 9 statements)")
        self.assertEqual(Sampler(text=PAIR), pair)

    def test_repr(self):
        self.assertEqual(repr(Sampler("places 1")), "Sampler(1 places, 0 statements)")
        self.assertEqual(repr(Sampler("places 1\nput 0")), "Sampler(1 places, 1 statements)")
        self.assertEqual(repr(Sampler("places 3\nif n < 3\n  put 0\nelse\n  put 2")), "Sampler(3 places, 3 statements)")

    def test_names_ascend_without_equal_neighbours(self):
        sampler = Sampler(text_of("draw zb below n", "if n < 3", "  draw za below n", "else", "  draw za below 2",
                                  "  draw a below n"))
        self.assertEqual(sampler.names, ("a", "za", "zb"))
        self.assertEqual(Sampler("places 2").names, ())
        for value in (sampler.places, sampler.statements):
            self.assertIs(type(value), int)
        self.assertIs(type(sampler.names), tuple)

    def test_the_text_is_kept(self):
        below = steps(3)
        for number in range(60):
            text = random_text(below, most_draws=3, most_lines=20)
            sampler = Sampler(text)
            lines = text.split("\n")
            self.assertEqual(str(sampler), text)
            self.assertEqual(sampler.places, int(lines[0][-1]))
            self.assertEqual(sampler.statements, len([line for line in lines[1:] if line.strip() != "else"]))
            names = {line.split()[1] for line in lines if line.split()[0] == "draw"}
            self.assertEqual(sampler.names, tuple(sorted(names)))

    def test_equality(self):
        texts = ("places 1", "places 2", "places 1\nput 0", "places 1\ndraw r below n", "places 1\ndraw s below n", PAIR)
        for one in texts:
            for other in texts:
                self.assertIs(Sampler(one) == Sampler(other), one == other)
                self.assertIs(Sampler(one) != Sampler(other), one != other)

    def test_things_of_other_classes_are_never_equal(self):
        class Alike:
            text = "places 1"
            places = 1

        sampler = Sampler("places 1")
        for other in (None, 1, True, "places 1", b"places 1", ("places 1",), ["places 1"], Alike(), object(), Sampler):
            self.assertIs(sampler == other, False)
            self.assertIs(other == sampler, False)
            self.assertIs(sampler != other, True)
            self.assertIs(other != sampler, True)


if __name__ == "__main__":
    unittest.main()
