import unittest
from fractions import Fraction

from evenkeeps.catalog import fading, last, pair, single
from evenkeeps.costs import draws_at, draws_later, first_more, never_more, writes_at, writes_later
from evenkeeps.errors import InvalidLength, NotASampler
from evenkeeps.ratios import Ratio
from evenkeeps.samplers import Sampler, ways
from tests.reference import costs_of, random_text
from tests.support import NO_NUMBERS, caught, steps, text_of, wrong_samplers
from tests.texts import LATE_19, LATE_20, LATE_21, LATE_PAIRS, ONE_PLACE, PAIR, PAIRLESS, SHORT, SINGLE, TRIPLE


def pair_of(number):
    return (number.numerator, number.denominator)


def extra(*tests, below=("n", "3*n"), places=1):
    """Draws one or two numbers, and another one where all tests hold."""
    lines = [f"draw {name} below {form}" for name, form in zip("ab", below)]
    for depth, test in enumerate(tests):
        lines.append("  " * depth + f"if {test}")
    lines.append("  " * len(tests) + "draw c below 1")
    return Sampler(text_of(*lines, places=places))


class Steps(unittest.TestCase):
    def check(self, text, step):
        sampler = Sampler(text)
        draws, writes = costs_of(text, step)
        with self.subTest(text, step=step):
            self.assertEqual(draws_at(sampler, step), pair_of(draws))
            self.assertEqual(writes_at(sampler, step), pair_of(writes))
            self.assertEqual(draws_at(step=step, sampler=sampler), pair_of(draws))
            self.assertEqual(writes_at(step=step, sampler=sampler), pair_of(writes))
            if step >= 19:
                self.assertEqual(draws_later(sampler)(step), pair_of(draws))
                self.assertEqual(writes_later(sampler)(step), pair_of(writes))

    def test_all_steps(self):
        for text in (SINGLE, PAIR, TRIPLE, PAIRLESS, LATE_PAIRS, ONE_PLACE, "places 2", str(fading(3)), str(last(3))):
            for step in range(1, 61):
                self.check(text, step)

    def test_two_draws(self):
        for text in (LATE_19, LATE_20):
            for step in (*range(1, 24), 59, 60):
                self.check(text, step)

    def test_short_ones(self):
        for text in SHORT:
            for step in range(1, 7):
                self.check(text, step)

    def test_programs_by_chance(self):
        below = steps(61)
        for number in range(60):
            text = random_text(below, most_draws=2)
            for step in (1, 2, 3, 9, 12, 18, 19, 20):
                self.check(text, step)

    def test_three_draws_on_a_way(self):
        text = text_of(
            "draw a below 2", "if a is 0", "  draw b below 3", "  if b is 0", "    draw c below 4", "    put 0", places=1)
        self.assertEqual(draws_at(Sampler(text), 5), (5, 3))
        self.assertEqual(writes_at(Sampler(text), 5), (1, 6))
        self.check(text, 30)

    def test_an_item_that_is_lost_is_not_written(self):
        self.assertEqual(writes_at(Sampler(text_of("put 0", "empty 0")), 4), (0, 1))
        self.assertEqual(writes_at(Sampler(text_of("put 0", "empty 0", "put 1")), 4), (1, 1))
        self.assertEqual(writes_at(Sampler(text_of("put 0", "exchange 0 1")), 4), (1, 1))
        self.assertEqual(writes_at(Sampler(text_of("put 0", "put 1")), 4), (1, 1))

    def test_draws_that_nothing_tests_count(self):
        self.assertEqual(draws_at(Sampler(text_of("draw a below n", "draw b below 1")), 1), (2, 1))
        self.assertEqual(str(draws_later(Sampler(text_of("draw a below n", "draw b below 1")))), "2")


class Later(unittest.TestCase):
    def test_texts(self):
        self.assertEqual(str(writes_later(pair())), "(2)/(n)")
        self.assertEqual(str(writes_later(single())), "(1)/(n)")
        self.assertEqual(str(writes_later(fading(7))), "(1)/(7)")
        self.assertEqual(str(writes_later(last(2))), "1")
        self.assertEqual(str(writes_later(Sampler("places 3"))), "0")
        self.assertEqual(str(draws_later(last(2))), "0")
        self.assertEqual(str(draws_later(pair())), "1")
        self.assertEqual(str(draws_later(extra("a < 9"))), "(2*n + 9)/(n)")
        self.assertIsInstance(draws_later(last(2)), Ratio)

    def test_far_beyond_sixty(self):
        """Against sums over the ways, whose chances are put together by hand."""
        sampler = extra("a < 2*n - 7", "b < n + 5", below=("3*n + 2", "3*n - 1"))
        for n in (19, 60, 61, 1000, 10 ** 12):
            share = Fraction(2 * n - 7, 3 * n + 2) * Fraction(n + 5, 3 * n - 1)
            self.assertEqual(draws_later(sampler)(n), pair_of(2 + share))
        sampler = Sampler(text_of("draw r below n", "if r < n - 9", "  if r is 9", "    put 0", "else", "  put 1"))
        for n in (20, 21, 10 ** 9):
            self.assertEqual(writes_later(sampler)(n), pair_of(Fraction(10, n)))
        # At 19 the 9 belongs to the `else` no more, and not yet to the body: 9 < 10.
        self.assertEqual(writes_later(sampler)(19), writes_at(sampler, 19))

    def test_the_same_as_each_step(self):
        for text in (LATE_19, LATE_20, LATE_21):
            sampler = Sampler(text)
            for step in (19, 20, 21, 40, 60):
                self.assertEqual(draws_later(sampler)(step), draws_at(sampler, step))
                self.assertEqual(writes_later(sampler)(step), writes_at(sampler, step))
                total = sum(Fraction(*chance) for chance, moves in ways(sampler, step) if "new" in moves)
                self.assertEqual(writes_at(sampler, step), pair_of(total))


class More(unittest.TestCase):
    def check(self, one, other, expected):
        with self.subTest(one=str(one), other=str(other)):
            self.assertEqual(first_more(one, other), expected)
            self.assertEqual(first_more(other=other, one=one), expected)
            self.assertIs(never_more(one, other), expected is None)
            self.assertIs(never_more(other=other, one=one), expected is None)

    def test_a_sampler_and_itself(self):
        for sampler in (pair(), single(), last(3), Sampler(LATE_21), extra("a < 9")):
            self.check(sampler, sampler, None)

    def test_unlike_places(self):
        self.check(pair(), single(), None)
        self.check(single(), pair(), 1)
        self.check(last(3), single(), None)
        self.check(single(), last(3), 1)
        self.check(last(1), last(3), None)

    def test_crossing_early(self):
        for start in range(2, 13):
            one = Sampler(text_of(f"if n < {start}", "  empty 0", "else", "  draw r below 2"))
            self.check(one, last(2), start)
            self.check(last(2), one, None)
            self.check(one, single(), None)
            self.check(single(), one, 1)
        # 2 + 9 / n against 3: at 10 it is less for the first time.
        full = Sampler(text_of("draw a below 1", "draw b below 1", "draw c below 1"))
        self.check(full, extra("a < 9"), 10)
        self.check(extra("a < 9"), full, None)

    def test_crossing_at_19_and_20_and_21(self):
        # The number a is from 9 (from 10) to n - 10: there are some from 19 (from 20) on.
        some = Sampler(text_of("draw a below n", "if a < n - 9", "  if a < 9", "    put 0", "  else", "    draw c below 1"))
        self.check(some, single(), 19)
        self.check(single(), some, None)
        later = Sampler(text_of(
            "draw a below n", "if a < n - 9", "  if a < 9", "    put 0", "  else", "    if a is 9", "      put 0",
            "    else", "      draw c below 1"))
        self.check(later, single(), 20)
        # A number from 0 to 8, or one of 10, against those from 9 to n - 10: more from 19 + 8 on.
        eight = Sampler(text_of("draw a below n", "if a < 8", "  draw c below 1"))
        self.check(some, eight, 27)
        self.check(eight, some, 1)
        two = Sampler(text_of("draw a below n", "if n < 12", "  draw c below 1", "else", "  if a < 2", "    draw c below 1"))
        self.check(some, two, 21)
        self.check(two, some, 1)

    def test_crossing_beyond_sixty(self):
        ninth = extra("a is 0", below=("9", "n"))
        nine = extra("a < 9")
        # 1 / 9 against 9 / n.
        self.check(nine, ninth, 1)
        self.check(ninth, nine, 82)
        # 1 / 81 against 9 / n, 9 / (3 * n + 9).
        both = extra("a is 0", "b is 0", below=("9", "9"))
        self.check(both, nine, 730)
        self.check(both, extra("a < 9", below=("3*n + 9", "1")), 241)
        # 81 / n ** 2 against 1 / (9 * (3 * n + 9)).
        product = extra("a < 9", "b < 9", below=("n", "n"))
        seldom = extra("a is 0", "b is 0", below=("9", "3*n + 9"))
        self.check(product, seldom, 1)
        found = first_more(seldom, product)
        self.assertEqual(found, [
            n for n in range(1, 4000) if Fraction(1, 9 * (3 * n + 9)) > Fraction(min(9, n), n) ** 2][0])
        self.assertGreater(found, 2000)

    def test_equal_from_some_step_on(self):
        early = Sampler(text_of("if n < 5", "  draw a below 2", "draw b below 3"))
        self.check(early, single(), 1)
        self.check(single(), early, None)
        late = Sampler(text_of("if n is 12", "  draw a below 2", "draw b below 3"))
        self.check(late, single(), 12)

    def test_a_share_that_grows_slowly(self):
        # The numbers from 9 to n - 10 among n, against eight of nine: (n - 18) / n is more from 163 on.
        some = Sampler(text_of("draw a below n", "if a < n - 9", "  if a < 9", "    put 0", "  else", "    draw c below 1"))
        most = Sampler(text_of("draw a below 9", "if a < 8", "  draw c below 1"))
        self.check(most, some, 1)
        self.check(some, most, 163)

    def test_programs_by_chance(self):
        below = steps(62)
        late = 0
        for number in range(120):
            one, other = (Sampler(random_text(below, most_draws=2)) for side in range(2))
            found = first_more(one, other)
            for n in range(1, 61):
                more = Fraction(*draws_at(one, n)) > Fraction(*draws_at(other, n))
                if more:
                    break
            self.assertEqual(found if found is None or found <= 60 else None, n if more else None)
            if found is not None and found > 60:
                self.assertGreater(Fraction(*draws_later(one)(found)), Fraction(*draws_later(other)(found)))
                self.assertLessEqual(Fraction(*draws_later(one)(found - 1)), Fraction(*draws_later(other)(found - 1)))
            late += found is not None and found > 1
        self.assertGreater(late, 3)


class Wrong(unittest.TestCase):
    def test_samplers(self):
        for value in wrong_samplers(pair()):
            for deed in (draws_later, writes_later):
                self.assertIs(caught(self, NotASampler, deed, value).value, value)
            for deed in (draws_at, writes_at):
                self.assertIs(caught(self, NotASampler, deed, value, 61).value, value)
            for deed in (never_more, first_more):
                self.assertIs(caught(self, NotASampler, deed, value, None).value, value)
                self.assertIs(caught(self, NotASampler, deed, pair(), value).value, value)
                self.assertIs(caught(self, NotASampler, deed, other=value, one=pair()).value, value)

    def test_steps(self):
        for deed in (draws_at, writes_at):
            for value in (*NO_NUMBERS, 0, -1, 61, 10 ** 30):
                self.assertIs(caught(self, InvalidLength, deed, pair(), value).value, value)

    def test_arguments_stay(self):
        one, other = pair(), Sampler(LATE_21)
        first_more(one, other), draws_at(one, 3), writes_later(other)
        self.assertEqual((str(one), str(other)), (PAIR, LATE_21))


if __name__ == "__main__":
    unittest.main()
