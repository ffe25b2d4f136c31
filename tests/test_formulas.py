import unittest
from fractions import Fraction

from evenkeeps.catalog import fading, last, pair, single
from evenkeeps.errors import Gap, InvalidLength, NotARatio, NotASampler
from evenkeeps.formulas import first_off, follows
from evenkeeps.horizons import last_for_formula
from evenkeeps.ratios import Ratio
from evenkeeps.samplers import Sampler
from tests.reference import Walk, random_text
from tests.support import NO_NUMBERS, ODD, caught, steps, text_of, wrong_samplers
from tests.texts import LATE_19, LATE_20, LATE_21, PAIR, PAIRLESS, SHORT, SHUFFLED, SINGLE, TRIPLE, late

N = Ratio((0, 1))
ONE = Ratio((1,))
NOTHING = "places 1"
# The item t comes with the chance 1 / t and stays with (n - 1) / (n + 3) * (n - 1) / n at each later step.
FALLING = text_of(
    "draw r below n + 3", "if r < 4", "  empty 0", "draw s below n", "if s is 0", "  put 0", places=1)
# Keeps the items 1 to 5 one after another, and then 5 for ever.
FIVE = text_of("if n < 6", "  put 0", places=1)


def over(top, bottom):
    return Ratio((top,)).over(bottom)


def polynomial(*roots):
    out = ONE
    for root in roots:
        out = out * (N - root)
    return out


def value(ratio, at):
    if isinstance(ratio, int):
        return Fraction(ratio)
    try:
        return Fraction(*ratio(at))
    except Gap:
        return None


class Formulas(unittest.TestCase):
    def check(self, text, by_item, by_length, expected, since=1):
        sampler = Sampler(text)
        with self.subTest(text, by_item=str(by_item), by_length=str(by_length), since=since):
            self.assertEqual(first_off(sampler, by_item, by_length, since), expected)
            self.assertEqual(first_off(since=since, by_length=by_length, by_item=by_item, sampler=sampler), expected)
            self.assertIs(follows(sampler, by_item, by_length, since), expected is None)
            self.assertIs(follows(since=since, by_length=by_length, by_item=by_item, sampler=sampler), expected is None)
            if since == 1:
                self.assertEqual(first_off(sampler, by_item, by_length), expected)
                self.assertIs(follows(sampler, by_item, by_length), expected is None)

    def walk(self, text, by_item, by_length, last, since=1):
        """Checks against a walk over all draws, which ends at some length."""
        def told(t, n):
            g, f = value(by_item, t), value(by_length, n)
            return None if g is None or f is None else g * f
        expected = Walk(text).first_off(last, told, since)
        found = first_off(Sampler(text), by_item, by_length, since)
        if expected is None:
            self.assertTrue(found is None or found[0] > last, (text, found))
        else:
            self.check(text, by_item, by_length, expected, since)
        return found

    def test_those_that_fit(self):
        self.check(SINGLE, 1, over(1, N), None)
        self.check(SINGLE, 7, over(1, N * 7), None)
        self.check(SINGLE, -1, over(-1, N), None)
        self.check(SHUFFLED, 1, over(1, N), None)
        self.check(PAIR, 1, over(2, N), None, since=2)
        self.check(TRIPLE, over(1, Ratio((2,))), over(6, N), None, since=3)
        self.check(NOTHING, 0, 0, None)
        self.check(NOTHING, 0, N, None)
        self.check(NOTHING, N * N, 0, None)
        for since in range(1, 21):
            self.check(SINGLE, 1, over(1, N), None, since)
            self.check(PAIR, 1, over(2, N), (1, 1) if since == 1 else None, since)

    def test_by_item_and_by_length(self):
        left = N * (N + 1) * (N + 2) * (N + 3)
        right = over(1, left * N)
        self.assertIsNone(self.walk(FALLING, left, right, 9))
        self.check(FALLING, left, right, None)
        # A number may stand on either side, other factors may not.
        self.check(FALLING, left.over(Ratio((5,))), right * 5, None)
        self.check(FALLING, left * 5, right.over(Ratio((5,))), None)
        self.check(FALLING, left * -1, right * -1, None)
        self.check(FALLING, left * N, right.over(N), (2, 1))
        self.check(FALLING, left * (N + 1), right.over(N + 1), (2, 1))
        self.check(FALLING, left, right * 5, (1, 1))
        self.check(FALLING, left, over(1, left * N + 1), (1, 1))
        self.check(FALLING, left + polynomial(1, 2), right, (3, 3))

    def test_from_some_length_on_only(self):
        for start in range(2, 13):
            text = text_of(f"if n < {start}", "  put 0", "else", "  draw r below n", "  if r is 0", "    put 0", places=1)
            # Up to there only the last item is kept; afterwards the share 1 / n for the new one, but not for the others.
            for since in (1, start - 1, start, start + 1):
                self.walk(text, 1, over(1, N), 14, since)
        even = text_of("if n is 4", "  empty 0", "else", "  draw r below n", "  if r is 0", "    put 0", places=1)
        self.walk(even, 1, over(1, N), 9)

    def test_since_counts(self):
        # Everything is lost at the step s, and nothing comes afterwards.
        for step in range(1, 13):
            text = text_of(f"if n is {step}", "  empty 0", f"if n < {step}", "  put 0", places=1)
            for since in range(1, 21):
                self.check(text, 0, 0, (since, since) if since < step else None, since)
        self.check(FIVE, 0, 0, (20, 5), since=20)
        self.check(LATE_20, 1, over(1, N), (20, 1), since=20)
        self.check(LATE_20, 1, over(1, N), (20, 1), since=19)

    def test_those_that_part_late(self):
        self.check(LATE_19, 1, over(1, N), (19, 1))
        self.check(LATE_20, 1, over(1, N), (20, 1))
        self.check(LATE_21, 1, over(1, N), (21, 1))
        for start in range(2, 13):
            self.check(late(start), 1, over(1, N), (start, 1))

    def test_formulas_of_high_powers(self):
        """Ratios that agree with the right ones up to some number."""
        for last in (3, 17, 18, 19, 20, 21, 30, 45, 62, 80):
            roots = polynomial(*range(1, last + 1))
            self.check(SINGLE, 1, over(1, N) + roots, (last + 1, 1))
            self.check(SINGLE, 1 + roots, over(1, N), (last + 1, last + 1))
            self.check(NOTHING, roots, 1, (last + 1, last + 1))
            self.check(NOTHING, 1, roots, (last + 1, 1))
        self.check(SINGLE, 1, over(1, N) + polynomial(*range(20, 70)), (1, 1))
        self.check(SINGLE, 1, over(1, N) + polynomial(*range(20, 70)), (70, 1), since=20)
        # Here g is 0 but for the item 5, up to some number.
        only = polynomial(1, 2, 3, 4, *range(6, 40))
        self.check(FIVE, only.over(Ratio((only(5)[0],))), 1, (40, 40), since=5)
        self.check(FIVE, only.over(Ratio((only(5)[0],))), 1, (1, 1))

    def test_gaps(self):
        for at in (1, 2, 5, 18, 19, 20, 21, 22, 23, 24, 59, 60, 61, 1000, 10 ** 12, 10 ** 38):
            gap = over(1, N - at)
            self.check(NOTHING, gap, 0, (at, at))
            self.check(NOTHING, 0, gap, (at, 1))
            since = min(at, 20)
            self.check(NOTHING, gap, 0, (at, at), since)
            self.check(NOTHING, 0, gap, (at, 1), since)
            # A gap far out does not matter where the chances are off before.
            self.check(SINGLE, gap, 1, (1, 1))
            self.check(SINGLE, 1, gap, (1, 1))
        # An item before the first length counts, a length before it does not.
        for at in range(1, 20):
            gap = over(1, N - at)
            self.check(NOTHING, gap, 0, (20, at), since=20)
            self.check(NOTHING, 0, gap, None, since=20)
            self.check(NOTHING, 0, gap, None, since=at + 1)
        self.check(NOTHING, over(1, (N - 9) * (N - 5)), 0, (20, 5), since=20)
        self.check(NOTHING, over(1, (N - 90) * (N - 5)), 0, (5, 5))
        self.check(NOTHING, over(1, (N - 90) * (N - 500)), 0, (90, 90))
        self.check(NOTHING, 0, over(1, (N - 90) * (N - 500)), (90, 1))
        # At whole numbers from 1 on there is none.
        for bottom in (N, N + 1, N * 2 - 3, N * N + 1, N * 2 - 10 ** 9 - 1):
            self.check(NOTHING, over(1, bottom), 0, None)
            self.check(NOTHING, 0, over(1, bottom), None)

    def test_gaps_that_fall_away(self):
        """A gap in one ratio where the other one is 0 counts all the same."""
        for at in (3, 19, 25, 64):
            self.check(NOTHING, over(1, N - at), 0 * N, (at, at))
            self.check(SINGLE, (N - at).over(N - at), over(1, N), None)
            self.check(SINGLE, over(1, N - at), (N - at).over(N), (2, 1))

    def test_a_gap_of_the_right_formula(self):
        # From 2 on the share is 1 / (n - 1): all items but the first one.
        text = text_of("if n < 2", "  empty 0", "else", "  draw r below n", "  if r < 1", "    put 0", places=1)
        self.walk(text, 1, over(1, N - 1), 8)
        sparse = text_of("if n is 1", "  empty 0", "else", "  draw r below n + 1", "  if r < 2", "    put 0", places=1)
        self.walk(sparse, 1, over(2, N - 1), 8)
        self.walk(sparse, N - 1, over(2, (N + 1) * N), 8)
        for since in range(1, 6):
            self.walk(sparse, N, over(1, N * N - 1), 8, since)
            self.walk(sparse, over(1, N - 1), over(1, N), 8, since)

    def test_short_ones_by_a_walk(self):
        ratios = (0, 1, over(1, N), over(2, N + 1), N, over(1, N - 2), over(1, N - 4), N + 1)
        for text in SHORT:
            for by_item in ratios:
                for by_length in ratios:
                    self.walk(text, by_item, by_length, 5)
                    self.walk(text, by_item, by_length, 5, since=3)

    def test_the_chances_of_one_item_by_a_walk(self):
        """A ratio through the first chances fits up to there."""
        below = steps(71)
        for number in range(12):
            text = random_text(below, most_draws=1)
            table = dict(Walk(text).chances(7))
            told = Ratio((0,))
            for n in range(1, 7):
                part = Ratio((1,))
                for other in range(1, 7):
                    if other != n:
                        part = part * over(1, Ratio((n - other,))) * (N - other)
                share = sum(table[n][1])
                told = told + part * Ratio((share.numerator,), (share.denominator,))
            self.walk(text, 1, told, 7)

    def test_even_samplers_follow_the_chance_of_their_items(self):
        self.check(PAIRLESS, 1, over(2, N + 1), (2, 1))
        self.walk(PAIRLESS, 1, over(2, N + 1), 10, since=3)
        self.check(str(last(1)), 1, 1, (2, 1))
        self.check(str(last(2)), 1, 1, (3, 1))
        self.check(str(last(3)), 1, 1, (4, 1))
        self.check(str(fading(1)), 1, 1, (2, 1))
        self.check(str(fading(2)), 1, over(1, Ratio((2,))), (2, 1))

    def test_how_far_one_looks(self):
        g, f = over(1, N ** 3), N ** 2
        for text, last in ((NOTHING, 20 + 3 + 4 + 1), (SINGLE, 20 + 2 + 3 + 4 + 1), (PAIR, 20 + 3 + 3 + 6 + 2), (
                TRIPLE, 20 + 6 + 3 + 8 + 3)):
            self.assertEqual(last_for_formula(Sampler(text), g, f), last)
        self.assertEqual(last_for_formula(Sampler(SINGLE), g, Ratio((0,))), 23)
        self.assertEqual(last_for_formula(Sampler(SINGLE), Ratio((0,)), f), 23)


class Wrong(unittest.TestCase):
    def test_each_argument(self):
        for deed in (follows, first_off):
            for value in wrong_samplers(pair()):
                self.assertIs(caught(self, NotASampler, deed, value, None, None, 0).value, value)
            for value in (None, True, False, "1", "n", b"1", (), (1,), [1], {}, ODD, object(), len, (1, 2), pair(), Ratio):
                self.assertIs(caught(self, NotARatio, deed, pair(), value, None, 0).value, value)
                self.assertIs(caught(self, NotARatio, deed, pair(), 1, value, 0).value, value)
                self.assertIs(caught(self, NotARatio, deed, pair(), by_length=value, by_item=N).value, value)
            for value in (*NO_NUMBERS, 0, 21, -1, 60, 10 ** 30, N):
                self.assertIs(caught(self, InvalidLength, deed, pair(), 1, N, value).value, value)
                self.assertIs(caught(self, InvalidLength, deed, pair(), 1, N, since=value).value, value)

    def test_arguments_stay(self):
        sampler, g, f = pair(), over(1, N), N + 1
        first_off(sampler, g, f, 3)
        self.assertEqual((str(sampler), str(g), str(f)), (PAIR, "(1)/(n)", "n + 1"))


if __name__ == "__main__":
    unittest.main()
