import unittest
from fractions import Fraction
from itertools import product as rows_of
from math import perm

from evenkeeps.errors import (
    BelowOne, DrawnTwice, InvalidCount, InvalidDraws, InvalidLength, InvalidText, NotAJoin, NotDrawn, TooMuch,
    UnknownPlace, Unsettled,
)
from evenkeeps.catalog import pair
from evenkeeps.forms import join_form_text, read_join_form
from evenkeeps.joins import Join, first_unfair, is_fair, join_rows, patterns, poured
from tests.reference import crossings, fair_rows_of, join_runs, patterns_of, random_join
from tests.support import NO_NUMBERS, ODD, caught, steps

POURED = "join 1\ndraw r below m + n\nif r < n\n  take 0 0"


def join_of(*lines, places=1):
    return "\n".join([f"join {places}", *lines])


# Each place in turn, from the first sample with the chance of what is left there among all that is left.
TWO = join_of(
    "draw r below m + n", "draw s below m + n - 1",
    "if r < m", "  if s < m - 1", "    exchange 0 1", "  else", "    take 1 0",
    "else", "  take 0 0", "  if s < m", "    other 0 1", "  else", "    take 1 1", places=2)
THREE = join_of(
    "draw r below m + n", "draw s below m + n - 1", "draw t below m + n - 2",
    "if r < m",
    "  if s < m - 1", "    if t < m - 2", "      exchange 0 1", "    else", "      take 2 0",
    "  else", "    take 1 1", "    if t < n - 1", "      take 2 0",
    "else", "  take 0 2",
    "  if s < n - 1", "    take 1 1", "    if t < n - 2", "      take 2 0",
    "  else", "    if t < m - 1", "      exchange 1 2", "    else", "      take 2 0", places=3)
FAIR = (POURED, TWO, THREE)


def told(pattern, m, n):
    """The chance of a pattern in a fair sample."""
    if None in pattern:
        return Fraction(0)
    return Fraction(perm(m, pattern.count(0)) * perm(n, pattern.count(1)), perm(m + n, len(pattern)))


def order(pattern):
    return tuple(2 if source is None else source for source in pattern)


def first_unfair_of(text, last):
    """The triple up to some m + n, from going through all draws."""
    places = int(text.split()[1])
    for both in range(2 * places, last + 1):
        for m in range(places, both - places + 1):
            found = patterns_of(text, m, both - m)
            for pattern in sorted(rows_of((0, 1, None), repeat=places), key=order):
                if found.get(pattern, 0) != told(pattern, m, both - m):
                    return (m, both - m, pattern)
    return None


class Forms(unittest.TestCase):
    def test_texts(self):
        for form, text in (
            ((2, 1, -3), "2*m + n - 3"), ((1, 0, 0), "m"), ((0, 1, 4), "n + 4"), ((0, 0, -3), "-3"), ((0, 0, 0), "0"),
            ((3, 3, 9), "3*m + 3*n + 9"), ((0, 2, -9), "2*n - 9"), ((1, 1, 0), "m + n"), ((2, 0, 1), "2*m + 1"),
        ):
            self.assertEqual(join_form_text(form), text)
            self.assertEqual(read_join_form(text), form)

    def test_all_texts(self):
        texts = set()
        for form in rows_of(range(4), range(4), range(-9, 10)):
            text = join_form_text(form)
            texts.add(text)
            self.assertEqual(read_join_form(text), form)
            Join(join_of("draw r below 1", f"if r < {text}", "  take 0 0"))
        self.assertEqual(len(texts), 304)

    def test_near_misses(self):
        for text in (
            "", "n + m", "m+n", "1*m", "4*m", "0*m", "m + 0", "m + 10", "m - 10", "m + n + 0", "10", "-10", "-0", "+3",
            "m + -1", "m - n", "-m", "m * 2", "2m", "m + m", "3 + m", " m", "m ", "m  + n", "M", "2*m + 0*n", "k",
            "m + n + m", "m + 3 + n", "01", "m + 01", "n + n", "2*n + m", "- 3",
        ):
            self.assertIsNone(read_join_form(text))
            for line in (f"draw q below {text}", f"if r < {text}"):
                wrong = join_of("draw r below 9", line, "  take 0 0") if line[0] == "i" else join_of(line)
                self.assertEqual(caught(self, InvalidText, Join, wrong).value, wrong)


class Texts(unittest.TestCase):
    def test_poured(self):
        self.assertEqual(str(poured()), POURED)
        self.assertEqual(poured(), Join(POURED))

    def test_properties(self):
        for text, places, statements in ((POURED, 1, 3), ("join 3", 3, 0), (TWO, 2, 10), (THREE, 3, 19)):
            join = Join(text)
            self.assertEqual((join.places, join.statements, str(join)), (places, statements, text))
            self.assertEqual(repr(join), f"Join({places} places, {statements} statements)")
            self.assertEqual(Join(text=text), join)
            self.assertFalse(join != Join(text))

    def test_equality(self):
        self.assertNotEqual(Join("join 1"), Join("join 2"))
        self.assertNotEqual(Join("join 1"), "join 1")
        self.assertNotEqual(Join(POURED), Join(POURED.replace("r ", "s ")))
        self.assertNotEqual(Join("join 1"), None)
        self.assertFalse(Join("join 1") == pair())

    def test_lines(self):
        for line in (
            "draw r below m", "draw abcdefgh below 2*m + 3*n - 9", "take 0 0", "take 0 1", "take 1 0", "take 2 2",
            "exchange 0 1", "exchange 1 2", "other 0 2", "other 1 2", "draw taken below 1",
        ):
            self.assertEqual(str(Join(join_of(line, places=3))), join_of(line, places=3))
        for test in ("r < m", "r < -9", "r < 3*m + 3*n + 9", "r is 0", "r is 9"):
            text = join_of("draw r below m", f"if {test}", "  take 0 0", "else", "  take 0 0")
            self.assertEqual(str(Join(text)), text)

    def test_near_misses_of_lines(self):
        for line in (
            "put 0", "empty 0", "put 0 1", "take 0", "take 0 0 0", "take 00 0", "take 0 -1", "take a 0", "take  0 0",
            "take 0 10", "take", "exchange 1 0", "exchange 0 0", "other 1 0", "other 1 1", "other 0", "exchange 0",
            "other 0 1 2", "Take 0 0", " take 0 0", "take 0 0 ", "  take 0 0", "else", "if r < m", "draw r below",
            "draw r below m m", "draw m below 2", "draw n below 2", "draw take below 2", "draw other below 2",
            "draw join below 2", "draw places below 2", "draw is below 2", "draw abcdefghi below 2", "draw R below 2",
            "draw r2 below 2", "draw below 2", "draw  r below 2", "draw r  below 2", "", "join 1", "places 1", "# take",
            "take 0 0\n", "take 0 0\nelse\n  take 0 0", "draw r below m\n  take 0 0", "\n",
        ):
            wrong = join_of(line, places=3)
            self.assertEqual(caught(self, InvalidText, Join, wrong).value, wrong)

    def test_near_misses_of_tests(self):
        for test in (
            "n < 3", "n is 1", "m < 3", "m is 1", "r is 10", "r is -1", "r is m", "r is", "r <", "r", "", "r < m < n",
            "r > m", "r == 1", "r <= m", "m < r", "r is 01", "3 < r", "r  < m", "if < m", "r < s", "r is 1 ",
        ):
            wrong = join_of("draw r below m", f"if {test}", "  take 0 0")
            self.assertEqual(caught(self, InvalidText, Join, wrong).value, wrong)
        for lines in (
            ("if r < m",), ("if r < m", "take 0 0"), ("if r < m", "    take 0 0"), ("if r < m", "  take 0 0", "else"),
            ("if r < m", "  take 0 0", "else", "take 0 0"), ("if r < m", "  take 0 0", "  else", "  take 0 0"),
            ("if r < m", "  take 0 0", "else", "  take 0 0", "else", "  take 0 0"), ("if r < m", " take 0 0"),
            ("if r < m", "else", "  take 0 0"), ("else", "  take 0 0"), ("if r < m", "\ttake 0 0"),
        ):
            wrong = join_of("draw r below m", *lines)
            self.assertEqual(caught(self, InvalidText, Join, wrong).value, wrong)

    def test_first_lines(self):
        for line in (
            "", "join", "join 0", "join 4", "join 01", "join -1", "join  1", " join 1", "join 1 ", "places 1", "Join 1",
            "join 1 1", "join one", "join 1.", "join\t1",
        ):
            for text in (line, line + "\ntake 0 0"):
                self.assertEqual(caught(self, InvalidText, Join, text).value, text)

    def test_values_that_are_no_texts(self):
        for value in (None, 1, True, b"join 1", (), ("join 1",), ["join 1"], ODD, object(), Join, poured(), len):
            self.assertIs(caught(self, InvalidText, Join, value).value, value)


class Conditions(unittest.TestCase):
    def check(self, kind, field, *lines, places=2):
        self.assertEqual(vars(caught(self, kind, Join, join_of(*lines, places=places))), field)

    def test_amounts(self):
        self.assertEqual(Join(join_of(*["take 0 0"] * 24)).statements, 24)
        self.check(TooMuch, {"what": "statements"}, *["take 0 0"] * 25)
        draws = [f"draw {name} below 1" for name in "abcdefg"]
        self.check(TooMuch, {"what": "way"}, *draws[:4])
        self.check(TooMuch, {"what": "way"}, *draws[:6])
        self.check(TooMuch, {"what": "draws"}, *draws)
        Join(join_of(*draws[:3]))
        deep = ["draw r below 1"] + ["  " * depth + "if r is 0" for depth in range(4)]
        Join(join_of(*deep, "        take 0 0"))
        self.check(TooMuch, {"what": "nested"}, *deep, "        if r is 0", "          take 0 0")

    def test_places(self):
        for line, places in (("take 1 0", 1), ("take 0 1", 1), ("take 2 0", 2), ("take 0 2", 2), ("exchange 0 2", 2),
                             ("other 1 2", 2), ("other 0 3", 3), ("exchange 8 9", 3), ("exchange 0 1", 1)):
            self.check(UnknownPlace, {"line": 2}, "take 0 0", line, "take 9 9", places=places)

    def test_names(self):
        self.check(NotDrawn, {"line": 1}, "if r < m", "  take 0 0", "draw r below m")
        self.check(NotDrawn, {"line": 4}, "draw a below m", "if a is 0", "  draw r below m", "if r < m", "  take 0 0")
        self.check(DrawnTwice, {"line": 2}, "draw a below m", "draw a below m")
        self.check(DrawnTwice, {"line": 4}, "draw a below m", "if a is 0", "  draw r below m", "draw r below m")
        Join(join_of("draw a below m", "if a is 0", "  draw r below m", "else", "  draw r below n", "if r < 2", "  take 0 0"))

    def test_below(self):
        self.check(BelowOne, {"line": 2}, "draw a below 1", "draw r below 0", "draw s below -3", "draw q below 0")
        for places in (1, 2, 3):
            for form, least in (("m", places), ("n", places), ("m + n", 2 * places), ("3*m + 2*n", 5 * places)):
                for summand in range(1, 10):
                    lines = ("take 0 0", f"draw r below {form} - {summand}")
                    if least - summand >= 1:
                        Join(join_of(*lines, places=places))
                    else:
                        self.check(BelowOne, {"line": 2}, *lines, places=places)

    def test_settled(self):
        for one, other, fine in (
            ("m + n", "m", True), ("m + n", "n", True), ("m", "n", False), ("n", "m", False), ("2*m", "m + n", False),
            ("m + n", "2*m", False), ("2*m + n", "m + n", True), ("m", "2*m - 9", True), ("3*m + n", "m + 2*n", False),
            ("m", "3", True), ("9", "n", True), ("3*n + 2", "3*n - 9", True), ("9", "m + n", True), ("m", "-9", True),
            ("2*m + 2*n", "3*m + 3*n", True), ("2*m + 2*n", "3*m + 2*n", True), ("2*m + 2*n", "3*m + n", False),
        ):
            lines = ("take 0 0", f"draw r below {one}", f"if r < {other}", "  take 0 0")
            if fine:
                Join(join_of(*lines))
            else:
                self.check(Unsettled, {"line": 3}, *lines)

    def test_settled_against_forms_before(self):
        wide = "draw r below 3*m + 3*n"
        # On the same way, in the body, in the else, and behind the `if`.
        self.check(Unsettled, {"line": 3}, wide, "if r < m", "  if r < n", "    take 0 0")
        self.check(Unsettled, {"line": 5}, wide, "if r < m", "  take 0 0", "else", "  if r < n", "    take 0 0")
        self.check(Unsettled, {"line": 4}, wide, "if r < m", "  take 0 0", "if r < n", "  take 0 0")
        # A test inside one body meets one behind the whole.
        self.check(
            Unsettled, {"line": 6}, wide, "draw s below 2", "if s is 0", "  if r < m", "    take 0 0", "if r < n",
            "  take 0 0")
        # Tests in either body do not meet.
        Join(join_of(wide, "draw s below 2", "if s is 0", "  if r < m", "    take 0 0", "else", "  if r < n", "    take 0 0"))
        # Another name does not count.
        Join(join_of(wide, "draw s below 3*m + 3*n", "if r < m", "  if s < n", "    take 0 0"))
        # Neither does a test that comes later, for the first line.
        self.check(
            Unsettled, {"line": 6}, wide, "if r < m", "  take 0 0", "if r < 2*m", "  take 0 0", "if r < n", "  take 0 0",
            "if r < m + n", "  take 0 0")

    def test_settled_against_numbers(self):
        # Numbers, and the numbers behind them, never cross any form.
        for number in range(10):
            Join(join_of(
                "draw r below m + n", f"if r is {number}", "  take 0 0", "if r < m", "  take 0 0", f"if r is {number}",
                "  take 0 0"))
        self.check(Unsettled, {"line": 5}, "draw r below m", "if r is 0", "  take 0 0", "if r < 3", "  if r < n", "    take 0 0")

    def test_settled_against_the_draw_of_the_way(self):
        lines = ("draw s below 2", "if s is 0", "  draw r below m", "else", "  draw r below 2*n", "if r < n", "  take 0 0")
        self.check(Unsettled, {"line": 6}, *lines)
        Join(join_of(*lines[:4], "  draw r below 2*m", "if r < 3*m", "  take 0 0"))
        self.check(
            Unsettled, {"line": 4}, "draw s below 2", "if s is 0", "  draw r below m", "  if r < n", "    take 0 0", "else",
            "  draw r below 2*n", "  if r < n", "    take 0 0")

    def test_the_order_of_errors(self):
        settle = ("draw p below m", "if p < n", "  take 0 0")
        way = ("draw a below 1", "draw b below 1", "draw c below 1")
        below = ("draw d below 0",)
        # Each text has all the later faults, too.
        self.check(TooMuch, {"what": "way"}, "draw p below m", *way)
        self.check(Unsettled, {"line": 2}, *settle, *way)
        self.check(BelowOne, {"line": 7}, *settle, *way, *below)
        self.check(DrawnTwice, {"line": 6}, *settle, *below, "draw a below 1", "draw a below 1")
        self.check(
            NotDrawn, {"line": 5}, *settle, *below, "if x < 2", "  take 0 0", "draw d below 1")
        self.check(UnknownPlace, {"line": 8}, *settle, *below, "if x < 2", "  take 0 0", "draw d below 1", "take 2 0")
        deep = [*settle, *below] + ["  " * depth + "if x is 0" for depth in range(5)] + ["          take 2 0"]
        self.check(TooMuch, {"what": "nested"}, *deep)
        self.check(TooMuch, {"what": "draws"}, *deep, *(f"draw {name} below 0" for name in "abcdef"))
        self.check(
            TooMuch, {"what": "statements"}, *deep, *(f"draw {name} below 0" for name in "abcdef"), *["take 3 3"] * 20)
        self.check(
            InvalidText, {"value": join_of(*deep, *["take 3 3"] * 30, "put 0", places=2)}, *deep, *["take 3 3"] * 30, "put 0")

    def test_first_unsettled_lines_by_all_ways(self):
        below = steps(91)
        wrong = 0
        for number in range(300):
            text = random_join(below, most_draws=3, most_lines=16)
            lines = crossings(text)
            with self.subTest(text):
                if lines:
                    wrong += 1
                    self.assertEqual(caught(self, Unsettled, Join, text).line, lines[0])
                else:
                    Join(text)
        self.assertGreater(wrong, 20)
        self.assertLess(wrong, 280)


def settled_joins(seed, number, most_draws):
    below = steps(seed)
    out = []
    while len(out) < number:
        text = random_join(below, most_draws=most_draws, most_lines=12)
        if not crossings(text):
            out.append(text)
    return out


class Patterns(unittest.TestCase):
    def check(self, text, m, n):
        expected = tuple(
            (pattern, (chance.numerator, chance.denominator))
            for pattern, chance in sorted(patterns_of(text, m, n).items(), key=lambda pair: order(pair[0])))
        with self.subTest(text, m=m, n=n):
            self.assertEqual(patterns(Join(text), m, n), expected)
            self.assertEqual(patterns(n=n, m=m, join=Join(text)), expected)

    def test_small_sizes(self):
        for text in FAIR:
            places = int(text.split()[1])
            for m in range(places, places + 4):
                for n in range(places, places + 4):
                    self.check(text, m, n)

    def test_moves(self):
        for lines, pattern in (
            ((), (0, 0)), (("take 0 0",), (1, 0)), (("take 0 0", "take 1 0"), (1, None)), (("take 1 1", "exchange 0 1"), (1, 0)),
            (("take 0 0", "take 0 0"), (None, 0)), (("take 0 0", "other 0 1", "take 1 0"), (1, 1)),
            (("take 0 0", "other 0 1", "take 1 1"), (1, None)), (("take 0 0", "take 0 1"), (1, 0)),
            (("take 1 0", "take 1 0", "take 0 0"), (None, None)), (("other 0 1", "exchange 0 1"), (0, 0)),
            (("take 0 0", "exchange 0 1", "take 0 0"), (None, 1)),
        ):
            self.assertEqual(patterns(Join(join_of(*lines, places=2)), 5, 7), ((pattern, (1, 1)),))

    def test_joins_by_chance(self):
        for text in settled_joins(92, 60, 2):
            places = int(text.split()[1])
            for m, n in ((places, places), (places + 2, places), (places, places + 3), (6, 5), (9, 11)):
                self.check(text, m, n)

    def test_three_draws(self):
        for text in settled_joins(93, 12, 3):
            self.check(text, 3, 4)

    def test_sizes_of_sixty(self):
        for text in FAIR:
            places = int(text.split()[1])
            for m, n in ((60, 60), (places, 60), (60, places), (59, 60)):
                found = dict(patterns(Join(text), m, n))
                for pattern in rows_of((0, 1), repeat=places):
                    self.assertEqual(Fraction(*found[pattern]), told(pattern, m, n))
                self.assertEqual(len(found), 2 ** places)
        self.check(POURED, 60, 60)
        self.check(TWO, 60, 3)

    def test_order(self):
        text = join_of(
            "draw r below 9", "if r is 0", "  take 0 0", "if r is 1", "  take 0 0", "  take 1 0", "if r is 2", "  take 1 0",
            "if r is 3", "  take 0 0", "  take 0 0", places=2)
        self.assertEqual([pattern for pattern, chance in patterns(Join(text), 2, 2)], [
            (0, 0), (0, 1), (1, 0), (1, None), (None, 0)])

    def test_wrong_arguments(self):
        for value in (None, 1, "join 1", POURED, b"", (), (poured(),), ODD, object(), Join, pair(), True):
            self.assertIs(caught(self, NotAJoin, patterns, value, 0, 0).value, value)
            for deed in (is_fair, first_unfair):
                self.assertIs(caught(self, NotAJoin, deed, value).value, value)
                self.assertIs(caught(self, NotAJoin, deed, join=value).value, value)
            self.assertIs(caught(self, NotAJoin, join_rows, value, None, None, None, None).value, value)
        for text in FAIR:
            join = Join(text)
            for value in (*NO_NUMBERS, join.places - 1, 0, -1, 61, 10 ** 30):
                self.assertIs(caught(self, InvalidLength, patterns, join, value, 0).value, value)
                self.assertIs(caught(self, InvalidLength, patterns, join, 60, value).value, value)
                self.assertIs(caught(self, InvalidLength, patterns, join, n=value, m=join.places).value, value)


class Fair(unittest.TestCase):
    def check(self, text, expected):
        with self.subTest(text):
            self.assertEqual(first_unfair(Join(text)), expected)
            self.assertIs(is_fair(Join(text)), expected is None)
            self.assertEqual(first_unfair(join=Join(text)), expected)
            self.assertIs(is_fair(join=Join(text)), expected is None)

    def test_fair_ones(self):
        for text in FAIR:
            self.check(text, None)
            places = int(text.split()[1])
            # Each row of different items comes with the same chance.
            for m, n in ((places, places), (places + 1, places), (places, places + 2) if places < 3 else (3, 3)):
                found = fair_rows_of(text, m, n)
                self.assertEqual(len(found), perm(m + n, places))
                self.assertEqual(set(found.values()), {Fraction(1, perm(m + n, places))})
        self.check(join_of("draw r below 2*m + 2*n", "if r < 2*n", "  take 0 0"), None)
        self.check(join_of("draw r below m + n", "if r < m", "  draw s below m", "else", "  take 0 0"), None)
        self.check(TWO + "\nexchange 0 1\nother 0 1\nother 0 1", None)

    def test_unfair_ones(self):
        self.check("join 1", (1, 1, (0,)))
        self.check(join_of("take 0 0"), (1, 1, (0,)))
        self.check(join_of("draw r below m + n", "if r < m", "  take 0 0"), (1, 2, (0,)))
        self.check(join_of("draw r below m + n", "if r < n", "  take 0 0", "take 0 0"), (1, 1, (0,)))
        self.check(join_of("draw r below 2", "if r is 0", "  take 0 0"), (1, 2, (0,)))
        # The right chances, but an empty place in the place of another one.
        self.check(TWO.replace("    take 1 1", "    take 1 0"), (2, 2, (1, 1)))
        self.check(TWO.replace("    take 1 0", "    take 1 0\n    take 1 0"), (2, 2, (0, 1)))

    def test_the_least_pattern(self):
        # The patterns that come are right, but for a last one.
        text = THREE.replace("if t < n - 2\n      take 2 0", "if t < n - 2\n      take 2 1")
        self.check(text, (3, 3, (1, 1, 1)))
        self.check(text, first_unfair_of(text, 6))

    def test_unfair_from_some_sizes_on(self):
        """A small change that begins where one of the sizes is above some number."""
        for least in range(1, 10):
            # If r is below n, then below m, too, from some m on; the numbers from `least` on are taken away.
            text = join_of("draw r below m + n", "if r < n", "  if r < " + str(least), "    take 0 0")
            self.check(text, (1, least + 1, (0,)))
            text = join_of("draw r below m + n", "if r < m", "  if r < " + str(least), "    draw s below 2", "  else",
                           "    take 0 0", "else", "  take 0 0")
            self.check(text, (least + 1, 1, (0,)))

    def test_unfair_from_later_sizes_on(self):
        # The numbers from 9 to n - 10 are from 19 on, without 9 from 20 on.
        late = join_of(
            "draw r below m + n", "if r < n", "  if r < n - 9", "    if r < 9", "      take 0 0", "  else", "    take 0 0")
        self.check(late, (1, 19, (0,)))
        later = join_of(
            "draw r below m + n", "if r < n", "  if r < n - 9", "    if r < 9", "      take 0 0",
            "    if r is 9", "      take 0 0", "  else", "    take 0 0")
        self.check(later, (1, 20, (0,)))
        self.check(later, first_unfair_of(later, 22))
        early = join_of(
            "draw r below m + n", "if r < m", "  if r < m - 9", "    if r < 9", "      draw s below 1", "    else",
            "      if r is 9", "        draw s below 1", "      else", "        take 0 0", "else", "  take 0 0")
        self.check(early, (20, 1, (0,)))

    def test_unfair_at_both_sizes_only(self):
        text = join_of(
            "draw r below m + n", "draw s below m", "if r < n", "  take 0 0", "  if r < n - 9", "    if s < m - 9",
            "      if r < 9", "        draw v below 1", "      else", "        take 0 0", places=1)
        # Where r is from 9 to n - 10 and s below m - 9, the place is emptied.
        self.check(text, (10, 19, (1,)))

    def test_small_sizes_by_all_draws(self):
        unfair = 0
        for text in settled_joins(94, 80, 2):
            places = int(text.split()[1])
            last = 2 * places + 4
            expected = first_unfair_of(text, last)
            found = first_unfair(Join(text))
            with self.subTest(text):
                self.assertEqual(found if found is None or sum(found[:2]) <= last else None, expected)
            unfair += found is not None
        self.assertGreater(unfair, 50)

    def test_changed_fair_ones_by_all_draws(self):
        for text in FAIR[:2]:
            lines = text.split("\n")
            for at in range(1, len(lines)):
                for old, new in (("m", "n"), ("- 1", "- 2"), ("n", "m"), ("0", "1"), ("1", "0"), ("<", "is")):
                    changed = "\n".join(lines[:at] + [lines[at].replace(old, new)] + lines[at + 1:])
                    try:
                        join = Join(changed)
                    except (InvalidText, Unsettled, UnknownPlace, BelowOne):
                        continue
                    found = first_unfair(join)
                    with self.subTest(changed):
                        self.assertEqual(found if found is None or sum(found[:2]) < 10 else None, first_unfair_of(changed, 9))


class Rows(unittest.TestCase):
    def test_all_draws(self):
        for text in (*FAIR, *settled_joins(95, 20, 2)):
            join = Join(text)
            k = join.places
            one = tuple(f"a{place}" for place in range(k))
            other = tuple(f"b{place}" for place in range(k))
            for chance, moves, draws in join_runs(text, k + 1, k):
                expected = tuple(None if thing is None else (one + other)[thing] for thing in moves[:k])
                self.assertEqual(join_rows(join, (k + 1, k), draws, one, other), expected)
        self.assertEqual(
            join_rows(other=("b",), one=("a",), draws=(2,), sizes=(2, 3), join=poured()), ("b",))

    def test_things_of_any_kind(self):
        things = (ODD, object(), [1], {}, len, None, b"", (1, 2), True, poured(), 3)
        for one in things:
            for other in things:
                self.assertIs(join_rows(poured(), (1, 1), (1,), (one,), (other,))[0], one)
                self.assertIs(join_rows(poured(), (1, 1), (0,), (one,), (other,))[0], other)
        swapped = Join(join_of("take 0 1", "exchange 0 1", places=2))
        row = join_rows(swapped, (2, 2), (), (things[0], things[1]), (things[2], things[3]))
        self.assertIs(row[0], things[1])
        self.assertIs(row[1], things[3])

    def test_empty_places(self):
        twice = Join(join_of("take 0 0", "take 1 0", places=2))
        self.assertEqual(join_rows(twice, (2, 60), (), ("a", "b"), ("c", "d")), ("c", None))
        self.assertEqual(join_rows(twice, (2, 60), (), (None, None), (None, "d")), (None, None))

    def test_sizes(self):
        for text in FAIR:
            join = Join(text)
            k = join.places
            for sizes in (
                *NO_NUMBERS, 1, (), (k,), (k, k, k), [k, k], (k - 1, k), (k, k - 1), (61, k), (k, 61), (True, k), (k, "1"),
                (None, k), (k, (k,)), ((k, k),), (ODD, k), (-1, 5),
            ):
                self.assertIs(caught(self, InvalidCount, join_rows, join, sizes, None, None, None).value, sizes)
        self.assertEqual(join_rows(poured(), (60, 60), (119,), ("a",), ("b",)), ("a",))

    def test_draws(self):
        for draws in (None, 1, [0], "0", {}, ODD, object(), b"\x00", len):
            self.assertIsNone(caught(self, InvalidDraws, join_rows, poured(), (2, 3), draws, None, None).index)
        for draws, index in (
            ((), 0), ((5,), 0), ((-1,), 0), ((True,), 0), ((None,), 0), (("0",), 0), ((ODD,), 0), ((0, 0), 1), ((4, None), 1),
            ((9, 9), 0), (((0,),), 0),
        ):
            self.assertEqual(caught(self, InvalidDraws, join_rows, poured(), (2, 3), draws, None, None).index, index)
        two = Join(TWO)
        for draws, index in (((0,), 1), ((0, 4), 1), ((0, 3, 0), 2), ((5, 0), 0), ((0, -1, 7), 1)):
            self.assertEqual(caught(self, InvalidDraws, join_rows, two, (2, 3), draws, (), ()).index, index)
        forked = Join(join_of("draw r below 2", "if r is 0", "  draw s below m", "else", "  draw t below n"))
        for draws, index in (((0, 2), 1), ((1, 3), 1), ((1,), 1), ((2, 0), 0)):
            self.assertEqual(caught(self, InvalidDraws, join_rows, forked, (2, 3), draws, (), ()).index, index)
        self.assertEqual(join_rows(forked, (2, 3), (1, 2), (0,), (1,)), (0,))

    def test_rows(self):
        two = Join(TWO)
        for value in (None, 1, "ab", ["a", "b"], (), ("a",), ("a", "b", "c"), {}, ODD, object(), b"ab", {"a", "b"}):
            self.assertIs(caught(self, InvalidCount, join_rows, two, (2, 3), (0, 0), value, None).value, value)
            self.assertIs(caught(self, InvalidCount, join_rows, two, (2, 3), (0, 0), (1, 2), value).value, value)

    def test_arguments_stay(self):
        join, inner = poured(), [1]
        one, other = (inner,), ({},)
        join_rows(join, (2, 3), (0,), one, other)
        first_unfair(join), patterns(join, 3, 4)
        self.assertEqual((one, other, str(join)), (([1],), ({},), POURED))


if __name__ == "__main__":
    unittest.main()
