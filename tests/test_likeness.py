import unittest

from evenkeeps.catalog import fading, last, pair, single
from evenkeeps.errors import NotASampler, UnlikePlaces
from evenkeeps.horizons import degree, last_for_pairs_of_two, last_for_two
from evenkeeps.likeness import alike, alike_in_pairs, first_apart
from evenkeeps.samplers import Sampler
from tests.reference import Walk, random_text
from tests.support import caught, steps, text_of, wrong_samplers
from tests.texts import (
    LATE_19, LATE_20, LATE_21, LATE_PAIRS, ONE_PLACE, PAIR, PAIRLESS, SHORT, SHUFFLED, SHUFFLED_THREE, SINGLE, TRIPLE,
    late,
)

# Single texts that do the same as `single`.
SAME_AS_SINGLE = (
    text_of("draw anyname below n", "if anyname is 0", "  put 0", places=1),
    text_of("draw r below n", "if r < 1", "  put 0", places=1),
    text_of("draw r below n", "if r < n - 1", "  draw s below 2", "else", "  put 0", places=1),
    text_of("draw r below 2*n", "if r < 2", "  put 0", places=1),
    text_of("draw r below 3*n", "if r < 3*n - 3", "  draw s below 3*n", "else", "  put 0", places=1),
    text_of("draw r below n", "draw s below n + 9", "if r is 0", "  put 0", places=1),
    text_of("draw r below n", "if n is 1", "  put 0", "else", "  if r is 1", "    put 0", places=1),
    text_of("draw r below n", "draw s below 2", "if r is 0", "  if s is 0", "    put 0", "  else", "    put 0", places=1),
)
SAME_AS_PAIR = (
    PAIR.replace("draw r", "draw pick").replace("if r", "if pick"),
    PAIR + "\nexchange 0 1\nexchange 0 1",
    text_of(
        "if n < 3", "  if n < 2", "    put 0", "  else", "    put 1", "else", "  draw r below n", "  draw s below 7",
        "  if r < n - 2", "    exchange 0 1", "    exchange 0 1", "  else", "    if r < n - 1", "      put 1", "    else",
        "      put 0", places=2),
)


def changing(*lines):
    """One of four things at each step, the last two of them as told."""
    return text_of("draw r below 4", "if r is 0", "  put 0", "if r is 1", "  put 1", *lines, places=2)


# The places are emptied one by one, or both at once half as often: the same for each item alone.
BY_ONE = changing("if r is 2", "  empty 0", "if r is 3", "  empty 1")
AT_ONCE = changing("if r is 2", "  empty 0", "  empty 1")


def pairs_from(start):
    """Alike for items; the pairs are those of BY_ONE up to some length."""
    return text_of(
        "draw r below 4", "if r is 0", "  put 0", "if r is 1", "  put 1", f"if n < {start}", "  if r is 2", "    empty 0",
        "  if r is 3", "    empty 1", "else", "  if r is 2", "    empty 0", "    empty 1", places=2)


def pairs_late(*nine):
    """As BY_ONE, but as AT_ONCE where a second number is from 9 to n - 10; the lines tell what is done for 9."""
    return changing(
        "draw s below n", "if r is 2", "  empty 0", "  if s < n - 9", "    if s < 9", "      draw v below 1",
        "    else", *(nine or ("      empty 1",)),
        "if r is 3", "  if s < n - 9", "    if s < 9", "      empty 1", *(("    if s is 9", "      empty 1") if nine else ()),
        "  else", "    empty 1")


PAIRS_19 = pairs_late()
PAIRS_20 = pairs_late("      if s is 9", "        draw v below 1", "      else", "        empty 1")


class Alike(unittest.TestCase):
    def check(self, one, other, expected):
        one, other = Sampler(one), Sampler(other)
        with self.subTest(one=str(one), other=str(other)):
            self.assertEqual(first_apart(one, other), expected)
            self.assertEqual(first_apart(other, one), expected)
            self.assertEqual(first_apart(other=one, one=other), expected)
            self.assertIs(alike(one, other), expected is None)
            self.assertIs(alike(other=one, one=other), expected is None)

    def test_written_otherwise(self):
        for text in SAME_AS_SINGLE:
            self.check(text, SINGLE, None)
            self.check(SAME_AS_SINGLE[0], text, None)
        for text in SAME_AS_PAIR:
            self.check(text, PAIR, None)
            self.check(SAME_AS_PAIR[-1], text, None)
            self.assertIs(alike_in_pairs(Sampler(text), pair()), True)
        for text in (TRIPLE, SHUFFLED, SHUFFLED_THREE, ONE_PLACE, PAIRLESS):
            self.check(text, text + "\ndraw unused below 3*n", None)
            self.check(text, text + "\nexchange 0 1\nexchange 0 1", None)
        self.check(LATE_21, LATE_21, None)
        for k in (2, 3):
            self.check(str(last(k)), str(last(k)) + "\nexchange 0 1\nexchange 0 1", None)
            self.check(str(last(k)), str(last(k)) + "\nexchange 0 1", (1, 1, 0))

    def test_catalog(self):
        self.check(str(single()), str(fading(1)), (2, 1, 0))
        self.check(str(fading(1)), str(last(1)), None)
        self.check(str(fading(2)), str(fading(3)), (1, 1, 0))
        self.check(str(pair()), str(last(2)), (2, 1, 0))

    def test_one_place_only(self):
        plain = text_of("draw r below n", "if r is 0", "  put 0", places=2)
        self.check(ONE_PLACE, plain, (2, 2, 1))
        self.check(ONE_PLACE, plain, Walk(ONE_PLACE).first_apart(Walk(plain), 6))
        one = text_of("draw r below 2", "if r is 0", "  put 0", "if n is 7", "  empty 2")
        two = text_of("draw r below 2", "if r is 0", "  put 0", "if n is 7", "  put 2")
        self.check(one, two, Walk(one).first_apart(Walk(two), 8))
        one = text_of("if n < 5", "  put 2", "else", "  exchange 0 1")
        two = text_of("if n < 5", "  put 2", "else", "  exchange 0 1", "if n is 9", "  empty 2")
        self.check(one, two, (9, 4, 2))
        two = text_of("if n < 5", "  put 2", "else", "  exchange 0 1", "if n is 9", "  exchange 1 2")
        self.check(one, two, (9, 4, 1))

    def test_late(self):
        for start in range(2, 13):
            self.check(SINGLE, late(start), (start, 1, 0))
        for start in range(3, 12):
            self.check(late(start + 1), late(start), (start, 1, 0))
        self.check(SINGLE, LATE_19, (19, 1, 0))
        self.check(SINGLE, LATE_20, (20, 1, 0))
        self.check(LATE_19, LATE_20, (19, 1, 0))
        two = text_of("draw r below n", "if r is 0", "  put 0", places=2)
        self.check(two, LATE_21, (21, 1, 0))
        swapped = LATE_21.replace("empty 1", "exchange 0 1\nempty 0")
        self.check(LATE_21, swapped, (1, 1, 0))

    def test_late_by_a_walk(self):
        for one, other, last_one in ((SINGLE, late(11), 12), (SINGLE, LATE_19, 20), (LATE_19, LATE_20, 20)):
            self.check(one, other, Walk(one).first_apart(Walk(other), last_one))

    def test_pairs_of_short_ones_by_a_walk(self):
        for one in SHORT:
            for other in SHORT:
                if one.split("\n")[0] == other.split("\n")[0]:
                    self.compare(one, other, 4)

    def compare(self, one, other, last):
        expected = Walk(one).first_apart(Walk(other), last)
        found = first_apart(Sampler(one), Sampler(other))
        with self.subTest(one=one, other=other):
            self.assertEqual(found if found is None or found[0] <= last else None, expected)
            self.assertIs(alike(Sampler(one), Sampler(other)), found is None)
            both = Walk(one).alike_in_pairs(Walk(other), last)
            if not both:
                self.assertIs(alike_in_pairs(Sampler(one), Sampler(other)), False)
            if found is None:
                self.assertTrue(expected is None)

    def test_programs_by_chance(self):
        below = steps(81)
        kept = {1: [], 2: [], 3: []}
        for number in range(60):
            text = random_text(below, most_draws=1, most_lines=9)
            kept[int(text.split()[1])].append(text)
        for texts in kept.values():
            for one, other in zip(texts, texts[1:]):
                self.compare(one, other, 6)

    def test_how_far_one_looks(self):
        one, two, three = Sampler(SINGLE), Sampler(PAIR), Sampler(TRIPLE)
        self.assertEqual(degree((one, one)), 1)
        self.assertEqual(degree((one, Sampler(LATE_19))), 2)
        self.assertEqual(degree((Sampler(LATE_21), two)), 3)
        self.assertEqual([last_for_two(each, each) for each in (one, two, three)], [22, 24, 28])
        # 14 and 1, 51 and 15.
        self.assertEqual([last_for_pairs_of_two(each, each) for each in (two, three)], [19 + 15 + 6, 19 + 66 + 12])


class AlikeInPairs(unittest.TestCase):
    def check(self, one, other, expected):
        one, other = Sampler(one), Sampler(other)
        with self.subTest(one=str(one), other=str(other)):
            self.assertIs(alike_in_pairs(one, other), expected)
            self.assertIs(alike_in_pairs(other, one), expected)
            self.assertIs(alike_in_pairs(other=one, one=other), expected)

    def test_one_place_has_no_pairs(self):
        self.check(SINGLE, str(last(1)), True)
        self.check(SINGLE, LATE_19, True)

    def test_in_pairs_only(self):
        """Alike for all items in all places, but not for pairs."""
        self.assertIs(alike(Sampler(BY_ONE), Sampler(AT_ONCE)), True)
        self.check(BY_ONE, AT_ONCE, False)
        self.check(BY_ONE, BY_ONE, True)
        self.assertIs(Walk(BY_ONE).alike_in_pairs(Walk(AT_ONCE), 4), False)

    def test_in_pairs_only_and_late(self):
        for start in range(1, 13):
            self.assertIs(alike(Sampler(BY_ONE), Sampler(pairs_from(start))), True)
            self.check(BY_ONE, pairs_from(start), False)
        # Before the step 3 there is no pair that could be lost.
        for start in range(2, 13):
            self.check(pairs_from(start - 1), pairs_from(start), start <= 3)

    def test_from_19_and_20_on(self):
        for text, first in ((PAIRS_19, 19), (PAIRS_20, 20)):
            self.assertIs(alike(Sampler(BY_ONE), Sampler(text)), True)
            one, other = Walk(BY_ONE), Walk(text)
            self.assertTrue(one.alike_in_pairs(other, first - 1))
            self.assertFalse(one.alike_in_pairs(other, first))
            self.check(BY_ONE, text, False)

    def test_alike_in_pairs_but_not_alike(self):
        turned = "\nif n is 5\n  exchange 0 1"
        self.check(PAIR, PAIR + turned, True)
        self.assertIs(alike(pair(), Sampler(PAIR + turned)), False)
        self.check(TRIPLE, TRIPLE + turned, True)
        self.assertIs(alike(Sampler(TRIPLE), Sampler(TRIPLE + turned)), False)
        self.check(str(last(3)), str(last(3)) + "\nexchange 0 2", False)
        self.check(SHUFFLED, ONE_PLACE, False)
        self.check(SHUFFLED, "places 2", True)
        self.check(SHUFFLED_THREE, "places 3", True)
        self.check(SHUFFLED_THREE, TRIPLE, False)
        self.check(PAIR, PAIRLESS, False)
        self.check(PAIR, LATE_PAIRS, False)

    def test_a_pair_that_waits_in_three_places(self):
        one = text_of("draw r below n", "if r is 0", "  put 2", "exchange 0 1")
        two = text_of("draw r below n", "if r is 0", "  put 2", "if n < 12", "  exchange 0 1")
        self.check(one, two, True)
        three = text_of("draw r below n", "if r is 0", "  put 2", "if r is 1", "  put 1", "exchange 0 1")
        four = text_of("draw r below n", "if r is 0", "  put 2", "if r is 1", "  put 1", "if n < 12", "  exchange 0 1")
        self.check(three, four, Walk(three).alike_in_pairs(Walk(four), 16))

    def test_programs_by_chance(self):
        below = steps(82)
        kept = {2: [], 3: []}
        for number in range(160):
            text = random_text(below, most_draws=1, most_lines=9)
            if not text.startswith("places 1"):
                kept[int(text.split()[1])].append(text)
        same = 0
        for texts in kept.values():
            for one, other in zip(texts, texts[1:]):
                found = alike_in_pairs(Sampler(one), Sampler(other))
                expected = Walk(one).alike_in_pairs(Walk(other), 7)
                with self.subTest(one=one, other=other):
                    self.assertLessEqual(found, expected)
                    if expected:
                        same += 1
                        self.assertEqual(found, Walk(one).alike_in_pairs(Walk(other), 22))
        self.assertGreater(same, 3)


class Wrong(unittest.TestCase):
    def test_samplers(self):
        for deed in (alike, first_apart, alike_in_pairs):
            for value in wrong_samplers(pair()):
                self.assertIs(caught(self, NotASampler, deed, value, None).value, value)
                self.assertIs(caught(self, NotASampler, deed, pair(), value).value, value)
                self.assertIs(caught(self, NotASampler, deed, other=value, one=pair()).value, value)

    def test_unlike_places(self):
        for deed in (alike, first_apart, alike_in_pairs):
            for one in (single(), pair(), last(3)):
                for other in (single(), pair(), last(3)):
                    if one.places != other.places:
                        self.assertEqual(vars(caught(self, UnlikePlaces, deed, one, other)), {})

    def test_arguments_stay(self):
        one, other = pair(), Sampler(SHUFFLED)
        first_apart(one, other), alike_in_pairs(one, other)
        self.assertEqual((str(one), str(other)), (PAIR, SHUFFLED))


if __name__ == "__main__":
    unittest.main()
