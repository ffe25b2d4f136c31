import unittest
from fractions import Fraction
from math import gcd

from evenkeeps.catalog import fading, last, pair, single
from evenkeeps.chances import chance, chances, pair_chance, row_chances
from evenkeeps.errors import InvalidItem, InvalidLength, InvalidPlace, NotASampler
from evenkeeps.samplers import Sampler, ways
from tests.reference import Walk, random_text, walk_rows
from tests.support import NO_NUMBERS, caught, steps, wrong_samplers
from tests.texts import LATE_19, LATE_20, LATE_21, LATE_PAIRS, PAIR, SHORT, SHUFFLED, TRIPLE, late


def told(number):
    """A fraction as the document writes it."""
    number = Fraction(number)
    return (number.numerator, number.denominator)


class Against(unittest.TestCase):
    """The package against chances that came in another way, as a dict {row: chance} for one length."""

    def compare(self, text, length, rows):
        sampler = Sampler(text)
        items = range(1, length + 1)
        with self.subTest(text, length=length):
            for item in items:
                kept = sum(share for row, share in rows.items() if item in row)
                self.assertEqual(chance(sampler, length, item), told(kept))
                for place in range(sampler.places):
                    here = sum(share for row, share in rows.items() if row[place] == item)
                    self.assertEqual(chance(sampler, length, item, place), told(here))
                for later in range(item + 1, length + 1):
                    both = sum(share for row, share in rows.items() if item in row and later in row)
                    self.assertEqual(pair_chance(sampler, length, item, later), told(both))
            self.assertEqual(chances(sampler, length), tuple(chance(sampler, length, item) for item in items))
            found = row_chances(sampler, length)
            self.assertEqual(dict(found), {row: told(share) for row, share in rows.items()})
            self.assertEqual(len(found), len(rows))
            order = [tuple(item or 0 for item in row) for row, share in found]
            self.assertEqual(order, sorted(order))


class Walks(Against):
    def test_all_draws_one_by_one(self):
        for text in SHORT:
            for length in (1, 2, 3):
                self.compare(text, length, walk_rows(text, length))

    def test_all_draws_of_longer_rows(self):
        for text in SHORT:
            for length in (4, 5, 8):
                self.compare(text, length, Walk(text).rows(length))

    def test_programs_by_chance(self):
        below = steps(31)
        for number in range(60):
            text = random_text(below, most_draws=2)
            self.compare(text, 1 + number % 4, Walk(text).rows(1 + number % 4))

    def test_programs_with_three_draws(self):
        below = steps(32)
        for number in range(25):
            text = random_text(below, most_draws=3, most_lines=18)
            self.compare(text, 2, Walk(text).rows(2))

    def test_the_two_walks_agree(self):
        for text in SHORT[:12]:
            self.assertEqual(walk_rows(text, 3), Walk(text).rows(3))


class Long(unittest.TestCase):
    def test_samplers_of_the_catalog(self):
        for length in (1, 2, 3, 10, 18, 19, 20, 21, 59, 60):
            self.assertEqual(chances(single(), length), ((1, length),) * length)
            self.assertEqual(chances(pair(), length), (told(min(1, Fraction(2, length))),) * length)
            fading_ones = tuple((1, 2 ** (length - item + 1)) for item in range(1, length + 1))
            self.assertEqual(chances(fading(2), length), fading_ones)
            kept = tuple((1, 1) if item > length - 3 else (0, 1) for item in range(1, length + 1))
            self.assertEqual(chances(last(3), length), kept)

    def test_single_items(self):
        self.assertEqual(chance(single(), 60, 1), (1, 60))
        self.assertEqual(chance(single(), 60, 60), (1, 60))
        self.assertEqual(chance(single(), 60, 30, 0), (1, 60))
        self.assertEqual(chance(fading(9), 60, 1), told(Fraction(1, 9) * Fraction(8, 9) ** 59))
        self.assertEqual(chance(fading(1), 60, 60), (1, 1))
        self.assertEqual(chance(fading(1), 60, 59), (0, 1))
        self.assertEqual(chance(last(3), 60, 58, 2), (1, 1))
        self.assertEqual(chance(last(3), 60, 58, 1), (0, 1))
        self.assertEqual(chance(last(3), 60, 57), (0, 1))

    def test_pairs(self):
        for length in (2, 3, 19, 60):
            share = told(Fraction(2, length * (length - 1)))
            for item, later in ((1, 2), (1, length), (length - 1, length)):
                if item < later:
                    self.assertEqual(pair_chance(pair(), length, item, later), share)
        share = told(Fraction(6, 60 * 59))
        for item, later in ((1, 2), (1, 60), (2, 3), (17, 40), (59, 60)):
            self.assertEqual(pair_chance(Sampler(TRIPLE), 60, item, later), share)
            self.assertEqual(pair_chance(single(), 60, item, later), (0, 1))
        self.assertEqual(pair_chance(last(3), 60, 58, 60), (1, 1))
        self.assertEqual(pair_chance(last(3), 60, 57, 60), (0, 1))

    def test_walks(self):
        for text in (LATE_19, LATE_20, late(12), LATE_PAIRS, SHUFFLED, TRIPLE):
            walk, sampler = Walk(text), Sampler(text)
            for length in (17, 18, 19, 20, 21, 30):
                items = (1, 2, 11, 12, 13, length - 1, length)
                found = chances(sampler, length)
                for item in items:
                    self.assertEqual(found[item - 1], told(walk.kept(length, item)))
                    self.assertEqual(chance(sampler, length, item), found[item - 1])
                    for place in range(sampler.places):
                        self.assertEqual(chance(sampler, length, item, place), told(walk.in_place(length, item, place)))
                for item, later in ((1, 2), (2, 11), (11, 12), (12, 13), (1, length), (length - 1, length)):
                    self.assertEqual(pair_chance(sampler, length, item, later), told(walk.kept(length, item, later)))

    def test_a_walk_to_the_end(self):
        for text in (PAIR, LATE_19, late(12, "2*n + 1")):
            walk, sampler = Walk(text), Sampler(text)
            self.assertEqual(chances(sampler, 60), tuple(told(walk.kept(60, item)) for item in range(1, 61)))

    def test_the_chance_of_a_late_item_at_once(self):
        sampler = Sampler(LATE_21)
        for n in (18, 19, 20, 21, 22, 40, 60):
            extra = Fraction((n - 19) * (n - 20), 9 * n ** 3) if n > 18 else 0
            self.assertEqual(chance(sampler, n, n), told(Fraction(1, n) + extra))
            self.assertEqual(chance(sampler, n, n, place=0), told(Fraction(1, n) + extra))
            self.assertEqual(chance(sampler, n, n, place=1), (0, 1))


class Rows(unittest.TestCase):
    def test_empty_places_come_first(self):
        sampler = Sampler("places 2\ndraw r below 3\nif r < 2\n  if r is 0\n    put 0\n  else\n    put 1")
        rows = [row for row, share in row_chances(sampler, 2)]
        self.assertEqual(rows, [
            (None, None), (None, 1), (None, 2), (1, None), (1, 2), (2, None), (2, 1),
        ])

    def test_chances_add_up_to_one(self):
        for text in SHORT:
            for length in (1, 2, 7, 8):
                found = row_chances(Sampler(text), length)
                self.assertEqual(sum(Fraction(*share) for row, share in found), 1)
                self.assertTrue(all(share[0] > 0 for row, share in found))
                self.assertEqual(len({row for row, share in found}), len(found))

    def test_nothing_is_done(self):
        for places in (1, 2, 3):
            self.assertEqual(row_chances(Sampler(f"places {places}"), 8), (((None,) * places, (1, 1)),))

    def test_known_rows(self):
        self.assertEqual(row_chances(last(3), 1), (((1, None, None), (1, 1)),))
        self.assertEqual(row_chances(last(3), 8), (((8, 7, 6), (1, 1)),))
        self.assertEqual(row_chances(pair(), 1), (((1, None), (1, 1)),))
        self.assertEqual(row_chances(pair(), 3), (((1, 2), (1, 3)), ((1, 3), (1, 3)), ((3, 2), (1, 3))))
        self.assertEqual(row_chances(fading(3), 1), (((None,), (2, 3)), ((1,), (1, 3))))
        self.assertEqual(row_chances(single(), 8), tuple(((item,), (1, 8)) for item in range(1, 9)))


class Values(unittest.TestCase):
    def check_fraction(self, value):
        self.assertIs(type(value), tuple)
        self.assertEqual([type(number) for number in value], [int, int])
        above, below = value
        self.assertGreaterEqual(below, 1)
        self.assertEqual(gcd(above, below), 1)

    def test_kinds(self):
        for text in SHORT:
            sampler = Sampler(text)
            found = chances(sampler, 6)
            self.assertIs(type(found), tuple)
            self.assertEqual(len(found), 6)
            for value in found:
                self.check_fraction(value)
            self.check_fraction(chance(sampler, 6, 3))
            self.check_fraction(chance(sampler, 6, 3, 0))
            self.check_fraction(pair_chance(sampler, 6, 3, 4))
            rows = row_chances(sampler, 6)
            self.assertIs(type(rows), tuple)
            for pair_of in rows:
                self.assertIs(type(pair_of), tuple)
                row, share = pair_of
                self.assertIs(type(row), tuple)
                self.assertEqual(len(row), sampler.places)
                self.check_fraction(share)

    def test_lowest_terms_of_nothing_and_of_everything(self):
        self.assertEqual(chance(Sampler("places 1"), 60, 1), (0, 1))
        self.assertEqual(chance(last(1), 60, 60), (1, 1))
        self.assertEqual(chances(Sampler("places 3"), 2), ((0, 1), (0, 1)))

    def test_arguments_by_name(self):
        self.assertEqual(chance(place=1, item=1, length=4, sampler=pair()), (0, 1))
        self.assertEqual(chance(pair(), 4, 1, place=0), (1, 2))
        self.assertEqual(chance(pair(), 4, 1, 0), (1, 2))
        self.assertEqual(chance(pair(), 4, 1, None), (1, 2))
        self.assertEqual(chance(pair(), 4, item=1, place=None), (1, 2))
        self.assertEqual(pair_chance(later=3, item=1, length=4, sampler=pair()), (1, 6))
        self.assertEqual(chances(length=2, sampler=single()), ((1, 2), (1, 2)))
        self.assertEqual(row_chances(length=1, sampler=single()), (((1,), (1, 1)),))

    def test_asked_again_after_another_length(self):
        for text in (PAIR, LATE_20, TRIPLE):
            sampler = Sampler(text)
            before = [
                chances(sampler, 5), chance(sampler, 5, 2), chance(sampler, 5, 2, 0), pair_chance(sampler, 5, 2, 3),
                row_chances(sampler, 5),
            ]
            state = (str(sampler), sampler.places, sampler.statements, sampler.names, list(ways(sampler, 7)))
            chances(sampler, 60), chance(sampler, 60, 2), pair_chance(sampler, 60, 2, 3), row_chances(sampler, 8)
            chances(sampler, 3), chance(sampler, 3, 2), pair_chance(sampler, 3, 2, 3), row_chances(sampler, 1)
            self.assertEqual(before, [
                chances(sampler, 5), chance(sampler, 5, 2), chance(sampler, 5, 2, 0), pair_chance(sampler, 5, 2, 3),
                row_chances(sampler, 5),
            ])
            after = (str(sampler), sampler.places, sampler.statements, sampler.names, list(ways(sampler, 7)))
            self.assertEqual(state, after)
            self.assertEqual(sampler, Sampler(text))


class Wrong(unittest.TestCase):
    """Each unsuitable value in each place, and the order in which they are looked at."""

    def refuse(self, kind, value, deed, *values):
        self.assertIs(caught(self, kind, deed, *values).value, value)
        names = {
            chance: ("sampler", "length", "item", "place"), pair_chance: ("sampler", "length", "item", "later"),
        }.get(deed, ("sampler", "length"))
        self.assertIs(caught(self, kind, deed, **dict(zip(names, values))).value, value)

    def test_samplers(self):
        for wrong in wrong_samplers(pair()):
            self.refuse(NotASampler, wrong, chance, wrong, 3, 1)
            self.refuse(NotASampler, wrong, chance, wrong, 3, 1, 0)
            self.refuse(NotASampler, wrong, pair_chance, wrong, 3, 1, 2)
            self.refuse(NotASampler, wrong, chances, wrong, 3)
            self.refuse(NotASampler, wrong, row_chances, wrong, 3)

    def test_lengths(self):
        for wrong in (*NO_NUMBERS, 0, -1, -60, 61, 62, 10 ** 39, pair()):
            self.refuse(InvalidLength, wrong, chance, pair(), wrong, 1)
            self.refuse(InvalidLength, wrong, pair_chance, pair(), wrong, 1, 2)
            self.refuse(InvalidLength, wrong, chances, pair(), wrong)
            self.refuse(InvalidLength, wrong, row_chances, pair(), wrong)
        for wrong in (9, 10, 19, 59, 60):
            self.refuse(InvalidLength, wrong, row_chances, pair(), wrong)

    def test_items(self):
        for wrong in (*NO_NUMBERS, 0, -1, -4, 5, 6, 60, 10 ** 39, pair()):
            self.refuse(InvalidItem, wrong, chance, pair(), 4, wrong)
            self.refuse(InvalidItem, wrong, chance, pair(), 4, wrong, 0)
            self.refuse(InvalidItem, wrong, pair_chance, pair(), 4, wrong, 2)
            self.refuse(InvalidItem, wrong, pair_chance, pair(), 4, 1, wrong)
        self.refuse(InvalidItem, 61, chance, pair(), 60, 61)
        self.refuse(InvalidItem, 2, chance, pair(), 1, 2)

    def test_later_is_above_the_item(self):
        for item, later in ((1, 1), (2, 1), (2, 2), (4, 3), (4, 4), (4, 1), (4, 5), (3, 0)):
            self.refuse(InvalidItem, later, pair_chance, pair(), 4, item, later)
        self.refuse(InvalidItem, 1, pair_chance, pair(), 1, 1, 1)
        self.refuse(InvalidItem, 2, pair_chance, pair(), 1, 1, 2)
        self.assertEqual(pair_chance(pair(), 4, 3, 4), (1, 6))
        self.assertEqual(pair_chance(pair(), 2, 1, 2), (1, 1))

    def test_places(self):
        for sampler in (last(1), last(2), last(3)):
            many = sampler.places
            for right in (None, *range(many)):
                chance(sampler, 4, 1, right)
            for wrong in (*NO_NUMBERS[1:], -1, -many, many, many + 1, 60, 10 ** 39, sampler):
                self.refuse(InvalidPlace, wrong, chance, sampler, 4, 1, wrong)

    def test_the_first_in_the_order_of_the_heading(self):
        self.refuse(NotASampler, "a", chance, "a", "b", "c", "d")
        self.refuse(InvalidLength, "b", chance, pair(), "b", "c", "d")
        self.refuse(InvalidItem, "c", chance, pair(), 4, "c", "d")
        self.refuse(InvalidPlace, "d", chance, pair(), 4, 4, "d")
        self.refuse(NotASampler, "a", pair_chance, "a", "b", "c", "d")
        self.refuse(InvalidLength, 0, pair_chance, pair(), 0, "c", "d")
        self.refuse(InvalidItem, 5, pair_chance, pair(), 4, 5, 3)
        self.refuse(InvalidItem, True, pair_chance, pair(), 4, True, 1)
        self.refuse(NotASampler, None, chances, None, None)
        self.refuse(NotASampler, None, row_chances, None, 9)
        self.refuse(InvalidLength, 61, chance, pair(), 61, 62, 2)

    def test_wrong_arguments_stay_as_they_are(self):
        rows, table = [1, [2]], {"a": [1]}
        for wrong in (rows, table):
            caught(self, NotASampler, chances, wrong, 3)
            caught(self, InvalidLength, chances, pair(), wrong)
            caught(self, InvalidItem, chance, pair(), 3, wrong)
            caught(self, InvalidPlace, chance, pair(), 3, 1, wrong)
        self.assertEqual((rows, table), ([1, [2]], {"a": [1]}))


if __name__ == "__main__":
    unittest.main()
