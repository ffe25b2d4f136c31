import unittest
from fractions import Fraction
from itertools import product as combined

from evenkeeps.errors import Gap, InvalidCount, InvalidText, NotARatio, ZeroBelow
from evenkeeps.ratios import Ratio
from tests.support import NO_NUMBERS, ODD, caught, steps

N = Ratio((0, 1))
NO_FACTORS = (
    None, 1, 0, True, "1", b"1", [1], [1, 2], {1: 2}, {1}, (), (True,), (False,), (1, True), (0, False), (None,),
    ("1",), (1, "2"), ((1,),), (1, (2,)), ([1],), (1, None, 2), (1, ODD), ODD, N, (N,), (1, N), range(2),
)


def value(factors, at):
    return sum(factor * at ** power for power, factor in enumerate(factors))


def samples():
    """Ratios of all sorts, zero, whole and constant ones among them."""
    below = steps(7)
    found = [Ratio((0,)), Ratio((1,)), Ratio((-3,)), Ratio((1,), (2,)), Ratio((-4,), (6,)), N, -N, Ratio((1,), (0, 1))]
    while len(found) < 40:
        top = tuple(below(9) - 4 for k in range(1 + below(4)))
        bottom = tuple(below(7) - 3 for k in range(1 + below(3)))
        if any(bottom):
            found.append(Ratio(top, bottom))
    return found


def points(*ratios):
    """Whole numbers where none of them has a gap."""
    return [at for at in range(-9, 10) if all(value(ratio.bottom, at) for ratio in ratios)]


def at_point(ratio, at):
    return Fraction(value(ratio.top, at), value(ratio.bottom, at))


class Making(unittest.TestCase):
    def check(self, ratio, top, bottom):
        self.assertEqual((ratio.top, ratio.bottom), (top, bottom))
        for half in (ratio.top, ratio.bottom):
            self.assertIs(type(half), tuple)
            for factor in half:
                self.assertIs(type(factor), int)

    def test_lowest_terms(self):
        rows = [
            (((1,),), (1,), (1,)),
            (((0,),), (0,), (1,)),
            (((5, 0, 2),), (5, 0, 2), (1,)),
            (((2,), (4,)), (1,), (2,)),
            (((6, 4), (2,)), (3, 2), (1,)),
            (((6, 4), (8,)), (3, 2), (4,)),
            (((2, 4), (6, 8)), (1, 2), (3, 4)),
            (((3,), (6, 9)), (1,), (2, 3)),
            (((-1, 0, 1), (1, 1)), (-1, 1), (1,)),
            (((1, 1), (-1, 0, 1)), (1,), (-1, 1)),
            (((-2, 2), (-1, 0, 1)), (2,), (1, 1)),
            (((0, 0, 1), (0, 1)), (0, 1), (1,)),
            (((0, 6), (0, 0, 4)), (3,), (0, 2)),
            (((1, 2, 1), (3, 6, 3)), (1,), (3,)),
            (((2, 3, 1), (6, 5, 1)), (1, 1), (3, 1)),
            (((1, 0, 0, 1), (1, 2, 1)), (1, -1, 1), (1, 1)),
            (((1, 2), (2, 4)), (1,), (2,)),
            (((3, 6), (2, 4)), (3,), (2,)),
            (((4, 0, 0, 0, -4), (6, 0, -6)), (2, 0, 2), (3,)),
            (((1, 0, 1), (1, 1)), (1, 0, 1), (1, 1)),
        ]
        for given, top, bottom in rows:
            with self.subTest(given):
                self.check(Ratio(*given), top, bottom)

    def test_the_highest_factor_below_is_above_zero(self):
        rows = [
            (((1,), (-1,)), (-1,), (1,)),
            (((1,), (-2,)), (-1,), (2,)),
            (((-3,), (-6,)), (1,), (2,)),
            (((1, 1), (1, -1)), (-1, -1), (-1, 1)),
            (((1,), (5, -1)), (-1,), (-5, 1)),
            (((1,), (-5, 1)), (1,), (-5, 1)),
            (((0,), (-3,)), (0,), (1,)),
            (((1, -1), (1, 0, -1)), (1,), (1, 1)),
        ]
        for given, top, bottom in rows:
            with self.subTest(given):
                self.check(Ratio(*given), top, bottom)

    def test_zeros_behind_the_highest_factor_are_dropped(self):
        self.check(Ratio((1, 2, 0, 0)), (1, 2), (1,))
        self.check(Ratio((3, 0)), (3,), (1,))
        self.check(Ratio((0, 0, 0)), (0,), (1,))
        self.check(Ratio((0, 0), (0, 3, 0)), (0,), (1,))
        self.check(Ratio((0, 1, 0), (2, 0, 0)), (0, 1), (2,))
        self.check(Ratio((0, 2), (0, 4, 0, 0)), (1,), (2,))
        self.check(Ratio((0, 0, 0, 5)), (0, 0, 0, 5), (1,))

    def test_many_products_are_brought_to_the_same_terms(self):
        pieces = [(1,), (-3,), (0, 1), (1, 1), (-2, 3), (1, 0, 1), (6, -4)]
        for one, two, more in combined(pieces, pieces, pieces):
            top = [0] * (len(one) + len(more) - 1)
            bottom = [0] * (len(two) + len(more) - 1)
            for k, a in enumerate(more):
                for j, b in enumerate(one):
                    top[k + j] += a * b
                for j, b in enumerate(two):
                    bottom[k + j] += a * b
            plain, wide = Ratio(one, two), Ratio(tuple(top), tuple(bottom))
            self.assertEqual((wide.top, wide.bottom), (plain.top, plain.bottom))
            self.assertEqual(wide, plain)

    def test_large_factors_and_high_powers(self):
        huge = 10 ** 39 + 7
        self.check(Ratio((huge * 6, huge * 4), (huge * 2,)), (3, 2), (1,))
        top = tuple([-1] + [0] * 59 + [1])
        self.check(Ratio(top, (-1, 1)), tuple([1] * 60), (1,))
        self.check(Ratio((-1, 1), top), (1,), tuple([1] * 60))

    def test_arguments_by_name(self):
        self.check(Ratio(bottom=(4,), top=(2, 4)), (1, 2), (2,))
        self.check(Ratio(top=(2, 4)), (2, 4), (1,))
        self.check(Ratio((2, 4), bottom=(2,)), (1, 2), (1,))

    def test_wrong_factors(self):
        for wrong in NO_FACTORS:
            self.assertIs(caught(self, InvalidCount, Ratio, wrong).value, wrong)
            self.assertIs(caught(self, InvalidCount, Ratio, wrong, (1,)).value, wrong)
            self.assertIs(caught(self, InvalidCount, Ratio, (1, 2), wrong).value, wrong)
            self.assertIs(caught(self, InvalidCount, Ratio, top=(0,), bottom=wrong).value, wrong)

    def test_the_order_of_the_errors(self):
        above, below = [1], [2]
        self.assertIs(caught(self, InvalidCount, Ratio, above, below).value, above)
        self.assertIs(caught(self, InvalidCount, Ratio, bottom=below, top=above).value, above)
        self.assertIs(caught(self, InvalidCount, Ratio, above, (0,)).value, above)
        self.assertEqual(caught(self, InvalidCount, Ratio, (1,), (0, True)).value, (0, True))
        self.assertEqual(caught(self, InvalidCount, Ratio, (1,), (False,)).value, (False,))

    def test_zero_below(self):
        for bottom in ((0,), (0, 0), (0, 0, 0, 0)):
            for top in ((0,), (1,), (0, 3)):
                caught(self, ZeroBelow, Ratio, top, bottom)


class Texts(unittest.TestCase):
    ROWS = [
        (((0,),), "0"), (((1,),), "1"), (((-1,),), "-1"), (((7,),), "7"), (((-12,),), "-12"),
        (((0, 1),), "n"), (((0, -1),), "-n"), (((0, 2),), "2*n"), (((0, -2),), "-2*n"),
        (((1, 1),), "n + 1"), (((-1, 1),), "n - 1"), (((1, -1),), "-n + 1"), (((-1, -1),), "-n - 1"),
        (((1, -1, 0, 2),), "2*n^3 - n + 1"), (((4, 1, -3),), "-3*n^2 + n + 4"),
        (((0, 0, 1),), "n^2"), (((0, 0, -1),), "-n^2"), (((0, 0, 0, 11),), "11*n^3"),
        (((-1, 0, 1),), "n^2 - 1"), (((0, -1, 1),), "n^2 - n"), (((0, 1, -1),), "-n^2 + n"),
        (((10, -10, 10),), "10*n^2 - 10*n + 10"), (((0,) * 10 + (1,),), "n^10"), (((0,) * 99 + (-5,),), "-5*n^99"),
        (((1,), (2,)), "(1)/(2)"), (((-1,), (2,)), "(-1)/(2)"), (((1,), (0, 1)), "(1)/(n)"),
        (((2,), (1, 1)), "(2)/(n + 1)"), (((0, -1), (3,)), "(-n)/(3)"), (((1, 2), (3, 0, 4)), "(2*n + 1)/(4*n^2 + 3)"),
        (((0, 1), (-1, 1)), "(n)/(n - 1)"), (((-7, 0, 0, -2), (-1, 5)), "(-2*n^3 - 7)/(5*n - 1)"),
        (((1,), (1, 0, 0, 1)), "(1)/(n^3 + 1)"),
    ]

    def test_texts(self):
        for given, text in self.ROWS:
            with self.subTest(text):
                self.assertEqual(str(Ratio(*given)), text)
                self.assertEqual(repr(Ratio(*given)), "Ratio(" + text + ")")

    def test_what_is_read(self):
        for given, text in self.ROWS:
            with self.subTest(text):
                ratio = Ratio.read(text)
                self.assertIs(type(ratio), Ratio)
                self.assertEqual((ratio.top, ratio.bottom), (Ratio(*given).top, Ratio(*given).bottom))
                self.assertEqual(str(Ratio.read(text=text)), text)

    def test_texts_of_many_ratios_are_read(self):
        for ratio in samples():
            self.assertEqual(Ratio.read(str(ratio)), ratio)

    def test_it_is_static(self):
        self.assertEqual(N.read("(n)/(2)"), N.over(2))

    def test_long_numbers(self):
        digits = "9" * 300
        for text in (digits, f"-{digits}*n^7 + {digits}", f"(7)/({digits}1)", f"({digits}*n)/({digits}1)"):
            self.assertEqual(str(Ratio.read(text)), text)
        self.assertEqual(str(Ratio((10 ** 64,))), "1" + "0" * 64)
        self.assertEqual(str(Ratio((-10 ** 128 - 5,))), "-1" + "0" * 127 + "5")

    def test_numbers_for_which_python_writes_no_text(self):
        text = str(((Ratio((10 ** 40 - 1,)) ** 6) ** 6) ** 6)
        self.assertEqual(len(text), 8640)
        self.assertTrue(text.isdigit())
        self.assertEqual(int(text[-40:]), (10 ** 40 - 1) ** 216 % 10 ** 40)
        self.assertEqual(int(text[:40]), (10 ** 40 - 1) ** 216 // 10 ** 8600)

    def test_texts_that_are_none(self):
        for text in (
            # nothing, blanks and signs
            "", " ", "-", "+", "--1", "+1", "- 1", " 1", "1 ", "1\n", "\n1", "+n", "- n", "--n", "n +1", "n+ 1",
            "n+1", "n-1", "n  + 1", "n +  1", "n + 1 ", " n + 1", "n +", "n + ", "n -", "+ n", "n + + 1", "n + -1",
            "n - -1", "n 1", "1 1", "n\n+ 1", "n * 2", "2 * n", "2* n", "2 *n", "n ^2", "n^ 2", "n^-2", "n^+2", "-2*-n",
            # factors
            "00", "-0", "01", "-01", "02*n", "0*n", "-0*n", "1*n", "-1*n", "1*n^2", "0*n + 1", "n + 0", "n - 0",
            "n + 0*n^2", "0*n^2 + n", "n^2 + 0*n + 1", "n + 01", "n + 1*n", "1_0", "1.0", "1e3", "0x1", "n*2", "2n",
            "n*n", "2*3", "2*3*n", "2**n", "*n", "2*", "2*n*", "n*", "1/2", "n/2", "1 / 2", "(n)", "(1)", "((n))",
            # powers
            "n^0", "n^1", "2*n^0", "2*n^1", "n^02", "n^", "n^n", "n^2^2", "n**2", "n2", "nn", "n^(2)", "n^2.", "^2",
            "n^100", "2*n^100", "n^100 + 1", "n^123456789", "n^99999999999999999999", "n^0099", "n^099",
            # order and repetition
            "1 + n", "n + n^2", "n^2 + n^3", "-1 + n", "1 - n", "n + n", "n^2 + n^2", "1 + 1", "n - n", "n + 1 + 1",
            "n^3 + n + n^2", "n^2 + 1 + n", "2 + 3*n", "0 + n", "n + 0 + 1",
            # other letters and words
            "m", "x", "N", "N^2", "2*m", "n + m", "one", "Ratio(n)", "None", "n;", "n,1", "(1, 2)",
            # lines
            "(1)/(1)", "(n)/(1)", "(0)/(1)", "(0)/(2)", "(0)/(n)", "(1)/(0)", "(0)/(0)", "(n)/(0)", "(2)/(4)",
            "(2*n)/(2)", "(2*n + 2)/(4)", "(n)/(n)", "(n)/(n^2)", "(n^2 - 1)/(n + 1)", "(n + 1)/(n^2 - 1)",
            "(n - 1)/(n^2 - 2*n + 1)", "(1)/(-2)", "(-1)/(-2)", "(1)/(-n)", "(1)/(-n + 1)", "(3)/(3*n)",
            "(1) / (2)", "(1)/ (2)", "(1) /(2)", "( 1)/(2)", "(1 )/(2)", "(1)/( 2)", "(1)/(2 )", " (1)/(2)", "(1)/(2) ",
            "(1)/(2)\n", "(1)/2", "1/(2)", "1)/(2)", "(1)/(2", "(1)(2)", "(1)//(2)", "(1)/(2)/(3)", "((1)/(2))",
            "((1))/(2)", "(1)/((2))", "-(1)/(2)", "(1)/(2) + 1", "1 + (1)/(2)", "()/(2)", "(1)/()", "()/()", "(/)",
            "(1)\\(2)", "[1]/[2]", "(1)/(n^100)", "(n^100)/(n + 1)", "(1)/(n + n)", "(1 + n)/(2)", "(1)/(1 + n)",
            "(n)/(2*n + 0)", "(02)/(3)", "(1)/(02)", "(n)/(n + 1))", "((n)/(n + 1)", ")/(", "(", ")", "()", "(1)/", "/(2)",
        ):
            with self.subTest(text):
                self.assertEqual(caught(self, InvalidText, Ratio.read, text).value, text)

    def test_a_power_of_99_is_read(self):
        self.assertEqual(Ratio.read("n^99 + 1").top, (1,) + (0,) * 98 + (1,))
        self.assertEqual(Ratio.read("(1)/(n^99 + 2*n)").bottom, (0, 2) + (0,) * 97 + (1,))

    def test_a_text_with_a_power_of_100_is_written_but_not_read(self):
        text = str(Ratio((0,) * 100 + (1,)))
        self.assertEqual(text, "n^100")
        caught(self, InvalidText, Ratio.read, text)

    def test_things_that_are_no_texts(self):
        for wrong in (None, 1, 0, True, b"1", b"n", (), ("n",), ["n"], {"n": 1}, N, ODD, str):
            self.assertIs(caught(self, InvalidText, Ratio.read, wrong).value, wrong)
            self.assertIs(caught(self, InvalidText, Ratio.read, text=wrong).value, wrong)


class Signs(unittest.TestCase):
    def compare(self, found, ratios, expected):
        """That a ratio has the values that `expected` makes of those of the others, and is in lowest terms."""
        self.assertIs(type(found), Ratio)
        for at in points(found, *ratios):
            self.assertEqual(at_point(found, at), expected(*[at_point(ratio, at) for ratio in ratios]))
        again = Ratio(found.top, found.bottom)
        self.assertEqual((again.top, again.bottom), (found.top, found.bottom))

    def test_two_ratios(self):
        ratios = samples()
        for one in ratios:
            for other in ratios:
                self.compare(one + other, (one, other), lambda a, b: a + b)
                self.compare(one - other, (one, other), lambda a, b: a - b)
                self.compare(one * other, (one, other), lambda a, b: a * b)
                if any(other.top):
                    found = one.over(other)
                    self.assertEqual(found * other, one)
                    for at in points(one, other, found):
                        if value(other.top, at):
                            self.assertEqual(at_point(found, at), at_point(one, at) / at_point(other, at))

    def test_whole_numbers_on_either_side(self):
        for ratio in samples():
            for number in (-7, -1, 0, 1, 2, 12, 10 ** 30):
                whole = Ratio((number,))
                self.assertEqual(ratio + number, ratio + whole)
                self.assertEqual(number + ratio, ratio + whole)
                self.assertEqual(ratio - number, ratio - whole)
                self.assertEqual(number - ratio, whole - ratio)
                self.assertEqual(ratio * number, ratio * whole)
                self.assertEqual(number * ratio, ratio * whole)
                if number:
                    self.assertEqual(ratio.over(number), ratio.over(whole))
                for found in (ratio + number, number + ratio, ratio - number, number - ratio, number * ratio):
                    self.assertIs(type(found), Ratio)

    def test_texts_of_results(self):
        part = Ratio((1,)).over(N)
        rows = [
            (N + 1, "n + 1"), (1 + N, "n + 1"), (N - 1, "n - 1"), (1 - N, "-n + 1"), (2 * N, "2*n"), (N * -2, "-2*n"),
            (part + part, "(2)/(n)"), (part - part, "0"), (part * N, "1"), (1 - part, "(n - 1)/(n)"),
            (part * part, "(1)/(n^2)"), (part.over(part), "1"), (N.over(N), "1"), (N.over(-2), "(-n)/(2)"),
            (part.over(N + 1), "(1)/(n^2 + n)"), (Ratio((0,)).over(N), "0"), (0 * part, "0"), (0 + part, "(1)/(n)"),
            (-part, "(-1)/(n)"), (-Ratio((0,)), "0"), (-(-part), "(1)/(n)"), (part + (-part), "0"),
            (N * part.over(2) + Ratio((1,), (2,)), "1"),
        ]
        for found, text in rows:
            self.assertEqual(str(found), text)

    def test_negative(self):
        for ratio in samples():
            self.compare(-ratio, (ratio,), lambda a: -a)

    def test_adding_on(self):
        total = N
        first = total
        total += Ratio((1,), (2,))
        self.assertEqual(str(total), "(2*n + 1)/(2)")
        self.assertEqual(str(first), "n")
        total += 1
        self.assertEqual(str(total), "(2*n + 3)/(2)")
        total -= N
        total *= 2
        self.assertEqual(str(total), "3")
        number = 4
        number += N
        self.assertEqual(str(number), "n + 4")
        self.assertEqual(str(sum([N, N, Ratio((1,))])), "2*n + 1")

    def test_no_operand_changes(self):
        for one in samples():
            for other in samples()[:12]:
                kept = (one.top, one.bottom, other.top, other.bottom, str(one), str(other))
                left, right = one, other
                left += right
                left = one
                left -= right
                left = one
                left *= right
                one + other, one - other, one * other, 3 + one, 3 - one, 3 * one, -one, one ** 3, one.later(4), bool(one)
                if other:
                    one.over(other)
                self.assertEqual(kept, (one.top, one.bottom, other.top, other.bottom, str(one), str(other)))

    def test_wrong_operands(self):
        deeds = (
            lambda wrong: N + wrong, lambda wrong: N - wrong, lambda wrong: N * wrong,
            lambda wrong: wrong + N, lambda wrong: wrong - N, lambda wrong: wrong * N,
            lambda wrong: N.over(wrong), lambda wrong: N.over(other=wrong),
        )
        for wrong in NO_NUMBERS:
            for deed in deeds:
                self.assertIs(caught(self, NotARatio, deed, wrong).value, wrong)

    def test_adding_on_to_wrong_operands(self):
        def on_a_ratio(wrong):
            total = N
            total += wrong

        def on_what_is_wrong(wrong):
            wrong += N

        for wrong in NO_NUMBERS:
            self.assertIs(caught(self, NotARatio, on_a_ratio, wrong).value, wrong)
            self.assertIs(caught(self, NotARatio, on_what_is_wrong, wrong).value, wrong)

    def test_over_zero(self):
        for zero in (0, Ratio((0,)), N - N):
            for ratio in (N, Ratio((0,)), Ratio((1,), (0, 1))):
                caught(self, ZeroBelow, ratio.over, zero)
                caught(self, ZeroBelow, ratio.over, other=zero)
        self.assertIs(caught(self, NotARatio, N.over, False).value, False)
        self.assertEqual(N.over(other=2), Ratio((0, 1), (2,)))

    def test_powers(self):
        for ratio in samples():
            expected = Ratio((1,))
            for power in range(7):
                found = ratio ** power
                self.assertIs(type(found), Ratio)
                self.assertEqual((found.top, found.bottom), (expected.top, expected.bottom))
                expected = expected * ratio
        self.assertEqual(str(Ratio((0,)) ** 0), "1")
        self.assertEqual(str(Ratio((0,)) ** 1), "0")
        self.assertEqual(str(N ** 6), "n^6")
        self.assertEqual(str((N - 1) ** 3), "n^3 - 3*n^2 + 3*n - 1")
        self.assertEqual(str(Ratio((-1,), (0, 2)) ** 5), "(-1)/(32*n^5)")

    def test_wrong_powers(self):
        for wrong in NO_NUMBERS + (-1, -2, 7, 8, 100, 10 ** 30, N, Ratio((2,)), "2", (2,)):
            for ratio in (N, Ratio((0,)), Ratio((1,))):
                self.assertIs(caught(self, InvalidCount, lambda: ratio ** wrong).value, wrong)


class Values(unittest.TestCase):
    def test_values(self):
        rows = [
            (N, 5, (5, 1)), (N, 0, (0, 1)), (N, -5, (-5, 1)), (Ratio((1,), (2,)), 9, (1, 2)), (Ratio((0,)), 3, (0, 1)),
            (Ratio((2,), (1, 1)), 3, (1, 2)), (Ratio((2,), (1, 1)), 0, (2, 1)), (Ratio((2,), (1, 1)), -3, (-1, 1)),
            (Ratio((2,), (1, 1)), -5, (-1, 2)), (Ratio((0, 1), (6,)), 4, (2, 3)), (Ratio((0, 1), (6,)), -4, (-2, 3)),
            (Ratio((0, 1), (1, 1)), 10 ** 30, (10 ** 30, 10 ** 30 + 1)), (Ratio((-4, 1), (1, 1)), 4, (0, 1)),
            (Ratio((-4, 1), (-7, 1)), 4, (0, 1)), (Ratio((-1, 0, 1), (3, 3, 1)), 1, (0, 1)),
        ]
        for ratio, at, expected in rows:
            with self.subTest(str(ratio), at=at):
                self.assertEqual(ratio(at), expected)
                self.assertEqual(ratio(at=at), expected)
                self.assertIs(type(ratio(at)), tuple)

    def test_values_are_fractions_in_lowest_terms(self):
        for ratio in samples():
            for at in points(ratio):
                expected = at_point(ratio, at)
                self.assertEqual(ratio(at), (expected.numerator, expected.denominator))

    def test_gaps(self):
        hole = Ratio((1,), (6, -5, 1))
        for at in (2, 3):
            self.assertEqual(caught(self, Gap, hole, at).at, at)
            self.assertEqual(caught(self, Gap, hole, at=at).at, at)
        self.assertEqual(hole(1), (1, 2))
        self.assertEqual(hole(4), (1, 2))
        self.assertEqual(caught(self, Gap, Ratio((1,)).over(N), 0).at, 0)
        self.assertEqual(caught(self, Gap, Ratio((1,)).over(N + 4), -4).at, -4)

    def test_a_gap_that_is_divided_out_is_none(self):
        self.assertEqual((N * N - 1).over(N - 1)(1), (2, 1))
        self.assertEqual(N.over(N)(0), (1, 1))

    def test_wrong_numbers(self):
        for ratio in (N, Ratio((0,)), Ratio((1,)).over(N - 1)):
            for wrong in NO_NUMBERS + (N,):
                self.assertIs(caught(self, InvalidCount, ratio, wrong).value, wrong)
                self.assertIs(caught(self, InvalidCount, ratio, at=wrong).value, wrong)

    def test_later(self):
        rows = [
            ("n", 0, "n"), ("n", 1, "n + 1"), ("n", 20, "n + 20"), ("n - 20", 20, "n"), ("n^2", 3, "n^2 + 6*n + 9"),
            ("5", 7, "5"), ("0", 20, "0"), ("(2)/(n + 1)", 1, "(2)/(n + 2)"), ("(n - 1)/(n + 1)", 1, "(n)/(n + 2)"),
            ("(n)/(2*n - 4)", 2, "(n + 2)/(2*n)"), ("-n^3 + 1", 1, "-n^3 - 3*n^2 - 3*n"),
        ]
        for text, by, expected in rows:
            with self.subTest(text, by=by):
                self.assertEqual(str(Ratio.read(text).later(by)), expected)
                self.assertEqual(str(Ratio.read(text).later(by=by)), expected)

    def test_later_has_the_later_values(self):
        for ratio in samples():
            for by in range(21):
                moved = ratio.later(by)
                self.assertIs(type(moved), Ratio)
                for at in points(moved):
                    self.assertEqual(at_point(moved, at), at_point(ratio, at + by))

    def test_wrong_steps_later(self):
        for wrong in NO_NUMBERS + (-1, -20, 21, 22, 10 ** 30, N):
            self.assertIs(caught(self, InvalidCount, N.later, wrong).value, wrong)
            self.assertIs(caught(self, InvalidCount, Ratio((0,)).later, by=wrong).value, wrong)


class TruthAndEquality(unittest.TestCase):
    def test_truth(self):
        for zero in (Ratio((0,)), Ratio((0, 0), (5, 1)), N - N, N * 0):
            self.assertIs(bool(zero), False)
        for other in (Ratio((1,)), Ratio((-1,)), N, Ratio((1,), (2,)), Ratio((0, 1), (1, 1))):
            self.assertIs(bool(other), True)

    def test_equal_ratios(self):
        for one, other in (
            (Ratio((2,), (4,)), Ratio((1,), (2,))), (N * N - 1, (N - 1) * (N + 1)), (Ratio((0,), (7,)), N - N),
            (Ratio((1,), (-1, -1)), Ratio((-1,), (1, 1))), (Ratio((3,)), Ratio((3, 0, 0))),
        ):
            self.assertIs(one == other, True)
            self.assertIs(one != other, False)
            self.assertEqual(str(one), str(other))

    def test_unequal_ratios(self):
        ratios = samples()
        for one in ratios:
            for other in ratios:
                self.assertIs(one == other, str(one) == str(other))
                self.assertIs(one != other, str(one) != str(other))
        for one, other in ((N, -N), (N, N + 1), (N.over(2), N.over(3)), (Ratio((1,)), N), (N.over(2), N)):
            self.assertIs(one == other, False)
            self.assertIs(one != other, True)

    def test_things_of_other_classes_are_never_equal(self):
        class Alike:
            top = (0, 1)
            bottom = (1,)

        for ratio in (N, Ratio((1,)), Ratio((0,))):
            for other in (
                None, 0, 1, True, False, "n", "1", "0", (0, 1), (1,), (0,), ((0, 1), (1,)), [1], Fraction(1), Alike(),
                object(), Ratio,
            ):
                self.assertIs(ratio == other, False)
                self.assertIs(other == ratio, False)
                self.assertIs(ratio != other, True)
                self.assertIs(other != ratio, True)


if __name__ == "__main__":
    unittest.main()
