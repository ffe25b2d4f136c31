import unittest

from evenkeeps.catalog import fading, last, pair, single
from evenkeeps.certificates import certify_apart, certify_even, certify_join, certify_off, certify_pairs, shares_of
from evenkeeps.checker import holds
from evenkeeps.errors import InvalidLength, NotAJoin, NotARatio, NotASampler, UnlikePlaces
from evenkeeps.evenness import first_uneven, first_uneven_pairs
from evenkeeps.formulas import first_off
from evenkeeps.joins import Join, first_unfair, poured
from evenkeeps.likeness import first_apart
from evenkeeps.ratios import Ratio
from evenkeeps.samplers import Sampler
from tests.reference import random_text
from tests.support import NO_NUMBERS, ODD, caught, steps, text_of, wrong_samplers
from tests.test_checker import EVEN, FADING, LAST_TWO, ODD_JOIN
from tests.test_joins import THREE, TWO, settled_joins
from tests.texts import LATE_19, LATE_20, LATE_21, LATE_PAIRS, PAIR, PAIRLESS, SINGLE, TRIPLE, idle, late

N = Ratio((0, 1))


def over(top, bottom):
    return Ratio((top,)).over(bottom)


class Certificates(unittest.TestCase):
    def accepted(self, made, claim, certificate=()):
        self.assertEqual(made, (claim, certificate))
        self.assertIs(holds(*made), True)
        self.assertIsInstance(made, tuple)


class Even(Certificates):
    def test_even_ones(self):
        half = ("(n)/(n + 1)",)
        self.accepted(certify_even(single()), ("even", SINGLE), ((("1",),), (half,), 19))
        self.accepted(certify_even(sampler=pair()), ("even", PAIR), ((("1", "1"),), (half,), 19))
        self.accepted(certify_even(Sampler(TRIPLE)), ("even", TRIPLE), ((("1",) * 3,), (half,), 19))
        self.accepted(certify_even(Sampler("places 2")), ("even", "places 2"), ((("1", "1"),), (("1",),), 19))
        gone = text_of("empty 0", places=1)
        self.accepted(certify_even(Sampler(gone)), ("even", gone), ((("1",),), (("0",),), 19))

    def test_several_columns(self):
        made = certify_even(Sampler(idle(3)))
        self.accepted(made, ("even", idle(3)), (
            (("1", "1"), ("(n)/(n + 1)", "(26)/(27)")),
            (("0", "1"), (
                "(-26*n^2 + 650*n)/(27*n^2 - 648*n - 1404)", "(53*n^2 - 1299*n - 1352)/(27*n^2 - 648*n - 1404)")), 27))
        claim, (columns, leads, last_one) = certify_even(Sampler(idle(3, places=3)))
        self.assertEqual(columns[1:], (("(n)/(n + 1)", "(26)/(27)", "1"), ("(n)/(n + 2)", "(676)/(729)", "1")))
        self.assertEqual(leads[:2], (("0", "1", "0"), ("0", "0", "1")))
        self.assertEqual(last_one, 53)

    def test_the_columns_are_led_on(self):
        """Each column but the first one is what the step table makes of the one before; so the leads tell it."""
        for text in EVEN:
            claim, (columns, leads, last_one) = certify_even(Sampler(text))
            self.assertEqual(columns[0], ("1",) * len(columns[0]))
            for at, lead in enumerate(leads[:-1]):
                self.assertEqual(lead, tuple("1" if k == at + 1 else "0" for k in range(len(columns))))
            self.assertIs(holds(claim, (columns, leads, last_one)), True)
            self.assertIs(holds(claim, (columns, leads, last_one - 1)), False)

    def test_the_last_length(self):
        # The gap lies where 1 / (n + 1) is less / 81.
        for less, gap in ((1, 80), (2, None), (3, 26), (4, None), (5, None), (9, 8)):
            made = certify_even(Sampler(idle(less)))
            if gap is not None and gap >= 60:
                self.assertIsNone(made)
            else:
                self.assertEqual(made[1][2], 27 if gap == 26 else 19)
                self.assertIs(holds(*made), True)
        for y, z, less, last_one in (("6", "9", 1, 54), ("7", "8", 1, 56), ("6", "8", 1, 48), ("5", "9", 1, 45), ("8", "8", 1, None)):
            text = idle(less).replace("y below 9", f"y below {y}").replace("z below 9", f"z below {z}")
            made = certify_even(Sampler(text))
            if last_one is None:
                self.assertIsNone(made)
            else:
                self.assertEqual(made[1][2], last_one)
                self.assertIs(holds(*made), True)
                claim, (columns, leads, found) = made
                self.assertIs(holds(claim, (columns, leads, found - 1)), False)

    def test_the_last_length_at_sixty(self):
        # Here the gap is where 1 / (n + 4) is 1 / 63, that is at 59; then at 60, which is too late.
        for form, last_one in (("n + 3", 60), ("n + 2", None), ("n + 4", 59)):
            text = idle(1).replace("y below 9", "y below 7").replace("r below n", f"r below {form}")
            made = certify_even(Sampler(text))
            if last_one is None:
                self.assertIsNone(first_uneven(Sampler(text)))
                self.assertIsNone(made)
            else:
                self.assertEqual(made[1][2], last_one)
                self.assertIs(holds(*made), True)

    def test_uneven_ones(self):
        self.accepted(certify_even(fading(3)), ("uneven", str(fading(3)), 2, 1, 2))
        self.accepted(certify_even(last(3)), ("uneven", str(last(3)), 4, 1, 2))
        for text, triple in ((LATE_19, (19, 1, 19)), (LATE_20, (20, 1, 20)), (LATE_21, (21, 1, 21)), (late(12), (12, 1, 12))):
            self.accepted(certify_even(Sampler(text)), ("uneven", text, *triple))

    def test_programs_by_chance(self):
        below = steps(111)
        even = several = 0
        for number in range(250):
            text = random_text(below, most_draws=2)
            sampler = Sampler(text)
            made = certify_even(sampler)
            triple = first_uneven(sampler)
            with self.subTest(text):
                if triple is not None:
                    self.accepted(made, ("uneven", text, *triple))
                elif made is not None:
                    self.assertEqual(made[0], ("even", text))
                    self.assertIs(holds(*made), True)
                    even += 1
                    several += len(made[1][0]) > 1
        self.assertGreater(even, 20)
        self.assertGreater(several, 5)

    def test_wrong_arguments(self):
        for deed in (certify_even, certify_pairs):
            for value in wrong_samplers(pair()):
                self.assertIs(caught(self, NotASampler, deed, value).value, value)
                self.assertIs(caught(self, NotASampler, deed, sampler=value).value, value)


class Shares(unittest.TestCase):
    def test_sums_of_columns(self):
        one, two = Ratio((1,)), over(1, N)
        ones = (one, one)
        self.assertEqual(shares_of((two, two), [ones]), (two,))
        self.assertIsNone(shares_of((one, two), [ones]))
        self.assertEqual(shares_of((one, two), [ones, (one, N)]), (
            (N - two).over(N - 1), (two - 1).over(N - 1)))
        # A column that begins with 0, and one that ends with it.
        zero = Ratio((0,))
        self.assertEqual(shares_of((N, one, zero), [(zero, one, zero), (one, zero, zero)]), (one, N))
        self.assertIsNone(shares_of((N, one, one), [(zero, one, zero), (one, zero, zero)]))
        self.assertEqual(shares_of((zero, zero), [ones]), (zero,))


class Pairs(Certificates):
    def test_pairs(self):
        self.accepted(certify_pairs(last(2)), ("uneven pairs", LAST_TWO, 3, (1, 2), (2, 3)))
        self.accepted(certify_pairs(sampler=Sampler(PAIRLESS)), ("uneven pairs", PAIRLESS, 3, (1, 2), (1, 3)))
        for text in (LATE_PAIRS, LAST_TWO, str(last(3))):
            self.accepted(certify_pairs(Sampler(text)), ("uneven pairs", text, *first_uneven_pairs(Sampler(text))))
        for text in (PAIR, TRIPLE, SINGLE, LATE_19, "places 3"):
            self.assertIsNone(certify_pairs(Sampler(text)))

    def test_programs_by_chance(self):
        below = steps(112)
        for number in range(60):
            text = random_text(below, most_draws=1)
            triple = first_uneven_pairs(Sampler(text))
            made = certify_pairs(Sampler(text))
            if triple is None:
                self.assertIsNone(made)
            else:
                self.accepted(made, ("uneven pairs", text, *triple))


class Apart(Certificates):
    def test_two_samplers(self):
        self.accepted(certify_apart(single(), fading(2)), ("apart", SINGLE, FADING, 1, 1, 0))
        self.accepted(certify_apart(other=single(), one=fading(2)), ("apart", FADING, SINGLE, 1, 1, 0))
        self.accepted(certify_apart(Sampler(LATE_20), single()), ("apart", LATE_20, SINGLE, 20, 1, 0))
        self.accepted(certify_apart(pair(), last(2)), ("apart", PAIR, LAST_TWO, 2, 1, 0))
        self.assertIsNone(certify_apart(pair(), pair()))
        self.assertIsNone(certify_apart(single(), Sampler(SINGLE.replace("is 0", "< 1"))))

    def test_programs_by_chance(self):
        below = steps(113)
        kept = {1: [], 2: [], 3: []}
        for number in range(60):
            sampler = Sampler(random_text(below, most_draws=1))
            kept[sampler.places].append(sampler)
        for samplers in kept.values():
            for one, other in zip(samplers, samplers[1:]):
                triple = first_apart(one, other)
                made = certify_apart(one, other)
                if triple is None:
                    self.assertIsNone(made)
                else:
                    self.accepted(made, ("apart", str(one), str(other), *triple))

    def test_wrong_arguments(self):
        for value in wrong_samplers(pair()):
            self.assertIs(caught(self, NotASampler, certify_apart, value, None).value, value)
            self.assertIs(caught(self, NotASampler, certify_apart, pair(), value).value, value)
        caught(self, UnlikePlaces, certify_apart, pair(), single())
        caught(self, UnlikePlaces, certify_apart, one=single(), other=pair())


class Joins(Certificates):
    def test_joins(self):
        for text in (str(poured()), TWO, THREE):
            self.accepted(certify_join(Join(text)), ("fair", text))
        self.accepted(certify_join(join=Join(ODD_JOIN)), ("unfair", ODD_JOIN, 1, 2, (0,)))
        for text in settled_joins(114, 30, 2):
            triple = first_unfair(Join(text))
            self.accepted(certify_join(Join(text)), ("fair", text) if triple is None else ("unfair", text, *triple))

    def test_wrong_arguments(self):
        for value in (None, 1, True, str(poured()), (), ODD, object(), Join, pair()):
            self.assertIs(caught(self, NotAJoin, certify_join, value).value, value)


class Off(Certificates):
    def test_formulas(self):
        share = over(2, N)
        self.accepted(certify_off(pair(), 1, share), ("off", PAIR, ("1", "(2)/(n)"), 1, 1))
        self.accepted(certify_off(pair(), 1, share, 1), ("off", PAIR, ("1", "(2)/(n)"), 1, 1))
        self.assertIsNone(certify_off(pair(), 1, share, since=2))
        self.accepted(
            certify_off(since=3, by_length=over(1, N * 2), by_item=N, sampler=fading(2)), ("off", FADING, ("n", "(1)/(2*n)"), 3, 1))
        self.accepted(certify_off(single(), -1, 3), ("off", SINGLE, ("-1", "3"), 1, 1))
        self.accepted(certify_off(Sampler(LATE_20), 1, over(1, N), since=20), ("off", LATE_20, ("1", "(1)/(n)"), 20, 1))

    def test_gaps(self):
        empty = Sampler("places 1")
        for gap in (1, 19, 59, 60):
            self.accepted(certify_off(empty, 0, over(1, N - gap)), ("off", "places 1", ("0", f"(1)/(n - {gap})"), gap, 1))
            self.accepted(certify_off(empty, over(1, N - gap), 0), ("off", "places 1", (f"(1)/(n - {gap})", "0"), gap, gap))
        for gap in (61, 62, 10 ** 20):
            self.assertEqual(first_off(empty, 0, over(1, N - gap)), (gap, 1))
            self.assertIsNone(certify_off(empty, 0, over(1, N - gap)))
            self.assertIsNone(certify_off(empty, over(1, N - gap), 0))

    def test_powers(self):
        power = Ratio((0,) * 99 + (1,))
        self.accepted(certify_off(single(), power, 1), ("off", SINGLE, ("n^99", "1"), 2, 1))
        self.accepted(certify_off(single(), 1, over(1, power)), ("off", SINGLE, ("1", "(1)/(n^99)"), 2, 1))
        for ratio in (power * N, over(1, power * N), (power * N + 1).over(N + 5)):
            self.assertIsNotNone(first_off(single(), ratio, 1))
            self.assertIsNone(certify_off(single(), ratio, 1))
            self.assertIsNone(certify_off(single(), 1, ratio))

    def test_wrong_arguments(self):
        for value in wrong_samplers(pair()):
            self.assertIs(caught(self, NotASampler, certify_off, value, None, None, 0).value, value)
        for value in (None, True, "1", (), (1,), ODD, object(), pair(), Ratio):
            self.assertIs(caught(self, NotARatio, certify_off, pair(), value, None, 0).value, value)
            self.assertIs(caught(self, NotARatio, certify_off, pair(), 1, value, 0).value, value)
        for value in (*NO_NUMBERS, 0, 21, -1, N):
            self.assertIs(caught(self, InvalidLength, certify_off, pair(), 1, N, value).value, value)

    def test_arguments_stay(self):
        one, other, share = pair(), last(2), over(2, N)
        certify_even(one), certify_pairs(other), certify_apart(one, other), certify_off(one, 1, share)
        self.assertEqual((str(one), str(other), str(share)), (PAIR, LAST_TWO, "(2)/(n)"))


if __name__ == "__main__":
    unittest.main()
