import unittest
from fractions import Fraction

from evenkeeps.catalog import fading, last, pair, single
from evenkeeps.chances import chance, chances, pair_chance
from evenkeeps.errors import InvalidPlace, NotASampler
from evenkeeps.evenness import first_uneven, first_uneven_pairs, is_even, is_even_in_pairs, is_even_in_places
from evenkeeps.horizons import degree, forms_below, last_for_items, last_for_pairs
from evenkeeps.samplers import Sampler, ways
from tests.reference import Walk, random_text
from tests.support import NO_NUMBERS, caught, steps, text_of, wrong_samplers
from tests.texts import (
    LATE_19, LATE_20, LATE_21, LATE_PAIRS, ONE_PLACE, PAIR, PAIRLESS, SHORT, SHUFFLED, SHUFFLED_THREE, SINGLE, TRIPLE,
    late,
)

FOUR = (SINGLE, PAIR, TRIPLE, SHUFFLED)


def many_singles():
    """Texts that put a new item now and then: some even, most of them not."""
    for below in ("n", "n + 1", "n + 9", "2*n", "2*n + 3", "3*n", "3*n + 1", "4", "2*n - 1", "3*n - 2"):
        for less in ("1", "2", "3", "n", "n - 1", "n - 9", "2*n - 9", "0", "9"):
            yield text_of(f"draw r below {below}", f"if r < {less}", "  put 0", places=1)


class Items(unittest.TestCase):
    def check(self, text, expected, place=None):
        sampler = Sampler(text)
        with self.subTest(text, place=place):
            self.assertEqual(first_uneven(sampler, place), expected)
            self.assertEqual(first_uneven(place=place, sampler=sampler), expected)
            self.assertIs(is_even(sampler, place), expected is None)
            self.assertIs(is_even(sampler, place=place), expected is None)
            if place is None:
                self.assertEqual(first_uneven(sampler), expected)
                self.assertIs(is_even(sampler), expected is None)

    def test_the_catalog(self):
        self.check(str(pair()), None)
        self.check(str(single()), None)
        for c in range(1, 10):
            self.check(str(fading(c)), (2, 1, 2))
        self.check(str(last(1)), (2, 1, 2))
        self.check(str(last(2)), (3, 1, 2))
        self.check(str(last(3)), (4, 1, 2))

    def test_even_ones(self):
        for text in (TRIPLE, SHUFFLED, SHUFFLED_THREE, PAIRLESS, LATE_PAIRS, "places 1", "places 3"):
            self.check(text, None)
        for form in ("n", "n + 1", "n + 9", "2*n", "2*n + 7", "3*n + 1"):
            factor = {"n": 1, "2": 2, "3": 3}[form[0]]
            self.check(text_of(f"draw r below {form}", f"if r < {factor}", "  put 0", places=1), None)
        self.check(text_of("put 0", "empty 0", places=2), None)

    def test_the_triple_tells_the_least_items(self):
        self.check(text_of("if n < 4", "  put 0", places=1), (2, 1, 2))
        # Up to 3 all are kept; the fourth item takes the place of the second one.
        kept = ("if n is 1", "  put 0", "if n is 2", "  put 1", "if n is 3", "  put 2")
        self.check(text_of(*kept, "if n is 4", "  put 1"), (4, 1, 2))
        self.check(text_of(*kept, "if n is 4", "  put 2"), (4, 1, 3))
        self.check(text_of(*kept, "if n is 4", "  put 0"), (4, 1, 2))
        self.check(text_of(*kept), (4, 1, 4))
        self.check(text_of("if n is 1", "  put 0", places=1), (2, 1, 2))
        self.check(text_of("if n is 2", "  put 0", places=1), (2, 1, 2))
        self.check(text_of("if n is 3", "  put 0", places=1), (3, 1, 3))

    def test_late_lengths(self):
        for start in range(2, 13):
            self.check(late(start), (start, 1, start))
        self.check(late(12), (12, 1, 12))
        self.check(text_of("if n is 12", "  put 0", places=1), (12, 1, 12))
        self.check(LATE_19, (19, 1, 19))
        self.check(LATE_20, (20, 1, 20))
        self.check(LATE_21, (21, 1, 21))

    def test_late_lengths_by_a_walk(self):
        for text in (late(10), late(12, "2*n"), LATE_19, LATE_20):
            self.check(text, Walk(text).first_uneven(21))
        # Before the late length all chances are equal, and then they are not.
        for text, first in ((LATE_19, 19), (LATE_20, 20), (LATE_21, 21)):
            for length in range(1, first):
                self.assertEqual(len(set(chances(Sampler(text), length))), 1)
            self.assertGreater(len(set(chances(Sampler(text), first))), 1)

    def test_what_was_uneven_is_told_though_it_ends(self):
        # At 3 the item 3 is there for sure, at 4 everything is lost for ever.
        text = text_of("if n is 3", "  put 0", "else", "  empty 0", places=1)
        self.assertEqual(chances(Sampler(text), 4), ((0, 1),) * 4)
        self.check(text, (3, 1, 3))

    def test_chances_that_meet_again(self):
        # At 2 both have the chance 1/2, at 3 the last one 1/2, at 4 nothing is left, from 5 on nothing comes.
        text = text_of("if n < 4", "  draw r below 2", "  if r is 0", "    put 0", "else", "  empty 0", places=1)
        self.check(text, Walk(text).first_uneven(6))
        self.check(text, (2, 1, 2))

    def test_small_lengths_by_a_walk(self):
        for text in SHORT:
            walk, sampler = Walk(text), Sampler(text)
            for place in (None, *range(sampler.places)):
                expected = walk.first_uneven(7, place)
                found = first_uneven(sampler, place)
                with self.subTest(text, place=place):
                    self.assertEqual(found if found is None or found[0] <= 7 else None, expected)
                    self.assertIs(is_even(sampler, place), found is None)

    def test_many_forms_by_a_walk(self):
        even = 0
        for text in many_singles():
            expected = Walk(text).first_uneven(22)
            found = first_uneven(Sampler(text))
            with self.subTest(text):
                self.assertEqual(found if found is None or found[0] <= 22 else None, expected)
            even += found is None
        self.assertGreater(even, 5)

    def test_programs_by_chance(self):
        below = steps(51)
        for number in range(80):
            text = random_text(below, most_draws=2)
            walk, sampler = Walk(text), Sampler(text)
            for place in (None, 0):
                found = first_uneven(sampler, place)
                with self.subTest(text, place=place):
                    expected = walk.first_uneven(5, place)
                    self.assertEqual(found if found is None or found[0] <= 5 else None, expected)

    def test_a_tuple_of_whole_numbers(self):
        found = first_uneven(fading(2))
        self.assertIs(type(found), tuple)
        self.assertEqual([type(number) for number in found], [int] * 3)


class InAPlace(unittest.TestCase):
    check = Items.check

    def test_even_in_one_place_and_not_in_another(self):
        self.check(ONE_PLACE, None, place=0)
        self.check(ONE_PLACE, (2, 1, 2), place=1)
        self.check(ONE_PLACE, Walk(ONE_PLACE).first_uneven(4))

    def test_even_but_in_no_place(self):
        self.check(PAIR, (2, 1, 2), place=0)
        self.check(PAIR, (2, 1, 2), place=1)
        self.check(TRIPLE, (2, 1, 2), place=0)
        self.check(TRIPLE, (2, 1, 2), place=1)
        self.check(TRIPLE, (3, 1, 3), place=2)

    def test_even_in_each_place(self):
        for place in (0, 1):
            self.check(SHUFFLED, None, place=place)
        for place in (0, 1, 2):
            self.check(SHUFFLED_THREE, None, place=place)
        self.check(SINGLE, None, place=0)

    def test_a_place_that_is_always_empty(self):
        self.check(text_of("put 1"), None, place=0)
        self.check(text_of("put 1"), (2, 1, 2), place=1)
        self.check(text_of("put 1"), None, place=2)

    def test_late(self):
        for text, first in ((LATE_19, 19), (LATE_20, 20), (LATE_21, 21), (late(12), 12)):
            self.check(text, (first, 1, first), place=0)
        self.check(LATE_21, None, place=1)

    def test_uneven_in_places_that_even_each_other_out(self):
        text = text_of("draw r below 2*n", "if r is 0", "  empty 1", "  put 0", "if r is 1", "  empty 0", "  put 1", places=2)
        self.check(text, None)
        self.check(text, None, place=0)
        text = text_of("draw r below n", "if r is 0", "  empty 1", "  put 0", "else", "  exchange 0 1", places=2)
        self.check(text, None)
        self.check(text, (2, 1, 2), place=0)
        self.check(text, (2, 1, 2), place=1)


class Places(unittest.TestCase):
    def check(self, text, expected):
        with self.subTest(text):
            self.assertIs(is_even_in_places(Sampler(text)), expected)
            self.assertIs(is_even_in_places(sampler=Sampler(text)), expected)

    def test_known_ones(self):
        for text in (SINGLE, SHUFFLED, SHUFFLED_THREE, "places 1", "places 2", "places 3", text_of("put 0", "empty 0")):
            self.check(text, True)
        for text in (PAIR, TRIPLE, PAIRLESS, LATE_PAIRS, ONE_PLACE, late(12), LATE_19, LATE_20, LATE_21):
            self.check(text, False)
        for sampler in (fading(2), last(1), last(2), last(3)):
            self.check(str(sampler), False)

    def test_even_in_each_place_but_not_alike(self):
        # Place 0 is that of `single`, place 1 stays empty.
        text = text_of("draw r below n", "if r is 0", "  put 0", places=2)
        self.assertTrue(is_even(Sampler(text), 0) and is_even(Sampler(text), 1) and is_even(Sampler(text)))
        self.check(text, False)

    def test_late(self):
        lines = SHUFFLED.split("\n")[1:]
        for start in (2, 10, 12):
            text = text_of(f"if n < {start}", *["  " + line for line in lines], "else", "  draw r below n",
                           "  if r is 0", "    empty 0", "    empty 1", "    put 0", "    draw s below 3",
                           "    if s is 0", "      exchange 0 1", places=2)
            self.assertTrue(is_even(Sampler(text)))
            self.check(text, False)
        # Only from 20 on what was put into place 0 stays there now and then.
        text = text_of(*lines[:5], "  draw s below 3*n + 4", "  if s < n - 9", "    if s < 9", "      exchange 0 1",
                       "    if s is 9", "      exchange 0 1", places=2)
        self.check(text, False)

    def test_by_a_walk(self):
        for text in SHORT:
            sampler, walk = Sampler(text), Walk(text)
            found = set()
            for length in range(1, 6):
                seen = {
                    walk.in_place(length, item, place) for item in range(1, length + 1) for place in range(sampler.places)
                }
                found.add(len(seen) == 1)
            if False in found:
                self.check(text, False)
            elif text in (SINGLE, SHUFFLED, SHUFFLED_THREE):
                self.check(text, True)


class Pairs(unittest.TestCase):
    def check(self, text, expected):
        sampler = Sampler(text)
        with self.subTest(text):
            self.assertEqual(first_uneven_pairs(sampler), expected)
            self.assertEqual(first_uneven_pairs(sampler=sampler), expected)
            self.assertIs(is_even_in_pairs(sampler), expected is None)
            self.assertIs(is_even_in_pairs(sampler=sampler), expected is None)

    def test_the_catalog(self):
        self.check(str(pair()), None)
        self.check(str(last(2)), (3, (1, 2), (2, 3)))
        self.check(str(last(3)), (4, (1, 2), (2, 3)))

    def test_one_place_has_no_pairs(self):
        for text in (SINGLE, LATE_19, LATE_20, late(10), *map(str, (fading(2), last(1), single()))):
            self.check(text, None)

    def test_even_ones(self):
        for text in (TRIPLE, SHUFFLED, SHUFFLED_THREE, LATE_21, "places 2", "places 3", text_of("put 1")):
            self.check(text, None)
        text = text_of("draw r below 2", "if r is 0", "  put 0", "else", "  put 0", places=2)
        self.check(text, None)

    def test_even_for_items_and_not_for_pairs(self):
        for text in (PAIRLESS, LATE_PAIRS):
            self.assertTrue(is_even(Sampler(text)))
        self.check(PAIRLESS, (3, (1, 2), (1, 3)))
        self.check(LATE_PAIRS, (12, (1, 2), (1, 12)))

    def test_the_triple_tells_the_least_pairs(self):
        kept = ("if n is 1", "  put 0", "if n is 2", "  put 1", "if n is 3", "  put 2")
        self.check(text_of(*kept), (4, (1, 2), (1, 4)))
        self.check(text_of(*kept, "if n is 4", "  put 0"), (4, (1, 2), (2, 3)))
        self.check(text_of(*kept, "if n is 4", "  put 1"), (4, (1, 2), (1, 3)))
        self.check(text_of(*kept, "if n is 4", "  put 2"), (4, (1, 2), (1, 3)))
        self.check(text_of(*kept[:4], "if n is 3", "  put 1", places=2), (3, (1, 2), (1, 3)))
        self.check(text_of("if n is 2", "  put 0", "if n is 3", "  put 1", places=2), (3, (1, 2), (2, 3)))

    def test_late(self):
        # Both places are emptied now and then, from 12, 19 or 20 on.
        start = PAIR.split("\n")[1:7]
        for lines, first in (
            (["  if n < 12", "    draw q below 1", "  else", "    if r is 5", "      empty 0"], 12),
            (["  draw s below 3*n", "  if s < n - 9", "    if s < 9", "      draw q below 1", "    else",
              "      empty 0"], 19),
            (["  draw s below 3*n", "  if s < n - 9", "    if s < 9", "      draw q below 1", "    else",
              "      if s is 9", "        draw q below 1", "      else", "        empty 0"], 20),
        ):
            text = text_of(*start, "  draw r below n", *lines, "  if r is 0", "    put 0", "  if r is 1", "    put 1", places=2)
            self.check(text, Walk(text).first_uneven_pairs(first))
            self.assertEqual(first_uneven_pairs(Sampler(text))[0], first)

    def test_by_a_walk(self):
        for text in SHORT:
            expected = Walk(text).first_uneven_pairs(6)
            found = first_uneven_pairs(Sampler(text))
            with self.subTest(text):
                self.assertEqual(found if found is None or found[0] <= 6 else None, expected)
                self.assertIs(is_even_in_pairs(Sampler(text)), found is None)

    def test_programs_by_chance(self):
        below = steps(52)
        for number in range(60):
            text = random_text(below, most_draws=2)
            expected = Walk(text).first_uneven_pairs(5)
            found = first_uneven_pairs(Sampler(text))
            with self.subTest(text):
                self.assertEqual(found if found is None or found[0] <= 5 else None, expected)

    def test_tuples_of_whole_numbers(self):
        found = first_uneven_pairs(last(2))
        self.assertEqual([type(part) for part in found], [int, tuple, tuple])
        self.assertEqual([type(number) for part in found[1:] for number in part], [int] * 4)


class EveryLength(unittest.TestCase):
    """That what is decided is true beyond the lengths that are looked at, also beyond 60."""

    def test_even_items_beyond_the_lengths_that_were_looked_at(self):
        for text in FOUR + (PAIRLESS, LATE_PAIRS):
            walk = Walk(text)
            self.assertIsNone(first_uneven(Sampler(text)))
            self.assertLess(last_for_items(Sampler(text)), 60)
            for length in (61, 75):
                kept = {walk.kept(length, item) for item in (1, 2, 3, 11, 12, 13, 18, 19, 20, 40, length - 1, length)}
                self.assertEqual(len(kept), 1)

    def test_even_pairs_beyond_the_lengths_that_were_looked_at(self):
        for text in (PAIR, TRIPLE):
            walk = Walk(text)
            self.assertIsNone(first_uneven_pairs(Sampler(text)))
            for length in (61, 70):
                some = ((1, 2), (1, 3), (2, 3), (3, 19), (18, 19), (19, 20), (1, length), (40, 50), (length - 1, length))
                self.assertEqual(len({walk.kept(length, *both) for both in some}), 1)

    def test_pairs_that_are_looked_at_beyond_60(self):
        # Six draws, each below another form; the places only change sides.
        lines = ["  draw a below n + 1", "  draw b below n + 2", "  if a is 0", "    if b is 0", "      exchange 0 1"]
        more = ["  draw a below n + 3", "  draw b below n + 4", "  if a is 1", "    if b is 1", "      exchange 1 2"]
        text = text_of("draw r below 2*n + 9", "if r < n", *lines, "else", *more, "if n < 4", "  if n is 1", "    put 0",
                       "  if n is 2", "    put 1")
        self.assertEqual(last_for_pairs(Sampler(text)), 79)
        self.assertEqual(first_uneven_pairs(Sampler(text)), (3, (1, 2), (1, 3)))
        text = text_of("draw r below 2*n + 9", "if r < n", *lines, "else", *more, "put 0")
        self.assertEqual(first_uneven(Sampler(text))[0], 2)
        self.assertEqual(first_uneven_pairs(Sampler(text)), Walk(text).first_uneven_pairs(3))
        text = text_of("draw r below 2*n + 9", "if r < n", *lines, "else", *more)
        self.assertIsNone(first_uneven_pairs(Sampler(text)))

    def test_the_lengths_to_look_at_for_items_end_before_60(self):
        below = steps(55)
        for number in range(200):
            sampler = Sampler(random_text(below, most_draws=3, most_lines=18))
            self.assertLessEqual(degree((sampler,)), 6)
            self.assertLessEqual(last_for_items(sampler), 19 + 6 * 4 + 3)

    def test_chances_from_19_on_are_fractions_of_polynomials(self):
        below = steps(53)
        texts = [random_text(below, most_draws=3, most_lines=18) for number in range(60)]
        for text in (*FOUR, LATE_19, LATE_20, LATE_21, LATE_PAIRS, *texts):
            sampler = Sampler(text)
            values = {}
            for n in range(19, 19 + degree((sampler,)) + 6):
                under = 1
                for factor, summand in forms_below((sampler,)):
                    under *= factor * n + summand
                for share, moves in ways(sampler, n):
                    known = values.setdefault(moves, {})
                    known[n] = known.get(n, 0) + Fraction(*share) * under
            for known in values.values():
                row = [known.get(n, 0) for n in range(19, 19 + degree((sampler,)) + 6)]
                for time in range(degree((sampler,)) + 1):
                    row = [later - early for early, later in zip(row, row[1:])]
                with self.subTest(text):
                    self.assertEqual(row, [0] * 5)

    def test_how_far_is_looked(self):
        self.assertEqual(degree((Sampler("places 3"),)), 0)
        self.assertEqual(degree((fading(9),)), 0)
        self.assertEqual(degree((pair(),)), 1)
        self.assertEqual(degree((Sampler(LATE_PAIRS),)), 1)
        self.assertEqual(degree((Sampler(LATE_21),)), 3)
        branches = text_of("draw a below 2", "if a is 0", "  draw r below n", "  draw s below n", "else",
                           "  draw r below n", "  draw s below 2*n", places=1)
        self.assertEqual(sorted(forms_below((Sampler(branches),))), [(0, 2), (1, 0), (1, 0), (2, 0)])
        # The way with the second draw has no chance before 20.
        late_draw = text_of("draw s below 3*n", "if s < n - 9", "  if s < 9", "    put 0", "  else", "    if s is 9",
                            "      put 0", "    else", "      draw q below n + 5", places=1)
        self.assertEqual(sorted(forms_below((Sampler(late_draw),))), [(1, 5), (3, 0)])
        self.assertEqual(last_for_items(single()), 22)
        self.assertEqual(last_for_items(Sampler(TRIPLE)), 26)
        self.assertEqual(last_for_pairs(pair()), 26)
        self.assertEqual(last_for_pairs(Sampler(TRIPLE)), 35)

    def test_what_is_told_is_so(self):
        below = steps(54)
        for number in range(40):
            sampler = Sampler(random_text(below, most_draws=3, most_lines=18))
            found = first_uneven(sampler)
            if found is None:
                self.assertEqual(len(set(chances(sampler, 60))), 1)
            else:
                n, t, u = found
                self.assertNotEqual(chance(sampler, n, t), chance(sampler, n, u))
                self.assertTrue(n == 1 or len(set(chances(sampler, n - 1))) == 1)
            found = first_uneven_pairs(sampler)
            if found is not None:
                n, one, other = found
                self.assertNotEqual(pair_chance(sampler, n, *one), pair_chance(sampler, n, *other))


class Wrong(unittest.TestCase):
    ALL = (is_even, first_uneven, is_even_in_places, is_even_in_pairs, first_uneven_pairs)

    def test_samplers(self):
        for wrong in wrong_samplers(pair()):
            for deed in self.ALL:
                self.assertIs(caught(self, NotASampler, deed, wrong).value, wrong)
                self.assertIs(caught(self, NotASampler, deed, sampler=wrong).value, wrong)

    def test_places(self):
        for sampler in (single(), pair(), Sampler(TRIPLE)):
            many = sampler.places
            for wrong in (*NO_NUMBERS[1:], -1, -many, many, many + 1, 3, 60, 10 ** 39, sampler):
                for deed in (is_even, first_uneven):
                    self.assertIs(caught(self, InvalidPlace, deed, sampler, wrong).value, wrong)
                    self.assertIs(caught(self, InvalidPlace, deed, place=wrong, sampler=sampler).value, wrong)

    def test_samplers_come_first(self):
        for deed in (is_even, first_uneven):
            self.assertEqual(caught(self, NotASampler, deed, "a", "b").value, "a")
            self.assertEqual(caught(self, NotASampler, deed, place=True, sampler=False).value, False)

    def test_the_sampler_stays_as_it_is(self):
        for text in (PAIR, LATE_20, LATE_PAIRS, TRIPLE):
            sampler = Sampler(text)
            before = (str(sampler), sampler.places, sampler.statements, sampler.names, list(ways(sampler, 20)))
            answers = [deed(sampler) for deed in self.ALL]
            self.assertEqual(answers, [deed(sampler) for deed in self.ALL])
            after = (str(sampler), sampler.places, sampler.statements, sampler.names, list(ways(sampler, 20)))
            self.assertEqual(before, after)
            self.assertEqual(sampler, Sampler(text))
        wrong = [1, [2]]
        for deed in (is_even, first_uneven):
            caught(self, InvalidPlace, deed, pair(), wrong)
        self.assertEqual(wrong, [1, [2]])


if __name__ == "__main__":
    unittest.main()
