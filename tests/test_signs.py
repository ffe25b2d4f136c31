import unittest

from evenkeeps.polynomials import product, shifted, value_at
from evenkeeps.signs import first_with, last_zero, next_change, sign, spells
from evenkeeps.spaces import space_of
from tests.support import steps


def with_roots(*roots, lead=1):
    out = (lead,)
    for root in roots:
        out = product(out, (-root, 1))
    return out


class Signs(unittest.TestCase):
    def check(self, factors, since, last):
        """Compares the spells up to some number with the values one by one."""
        found = spells(shifted(factors, since))
        self.assertEqual(found[0][0], 0)
        for (one, before), (other, after) in zip(found, found[1:]):
            self.assertLess(one, other)
            self.assertNotEqual(before, after)
        for number in range(since, last):
            signs = [now for start, now in found if since + start <= number]
            self.assertEqual(signs[-1], sign(value_at(factors, number)), (factors, number))
        for wanted in (-1, 0, 1):
            fitting = [number for number in range(since, last) if sign(value_at(factors, number)) == wanted]
            first = first_with(factors, since, wanted)
            if fitting:
                self.assertEqual(first, fitting[0])
            else:
                self.assertTrue(first is None or first >= last)

    def test_few_roots(self):
        for factors in ((0,), (5,), (-5,), (-7, 1), (7, -1), (-7, 2), (7, -2), (0, 0, 1), (1, 0, 1), (-1, 0, -1)):
            self.check(factors, 0, 20)
            self.check(factors, 3, 20)
        self.check(with_roots(4, 4), 0, 12)
        self.check(with_roots(4, 5), 0, 12)
        self.check(with_roots(4, 4, 4), 0, 12)
        self.check(with_roots(2, 9, 15, 16, lead=-3), 0, 30)
        self.check(with_roots(*range(1, 13)), 0, 30)

    def test_many_polynomials(self):
        below = steps(7)
        for number in range(150):
            roots = [below(25) for root in range(below(6))]
            factors = product(with_roots(*roots, lead=below(9) - 4 or 1), (below(30) - 15, below(5) - 2 or 1))
            self.check(factors, below(10), 60)
            self.check(tuple(below(2001) - 1000 for k in range(1 + below(5))) + (1,), 0, 60)

    def test_roots_between_whole_numbers(self):
        # (2 * n - 9) * (2 * n - 11) is below 0 at 5 alone.
        factors = product((-9, 2), (-11, 2))
        self.assertEqual(spells(factors), [(0, 1), (5, -1), (6, 1)])
        # Here nothing is below 0 at a whole number.
        self.assertEqual(spells(product((-9, 4), (-11, 4))), [(0, 1)])

    def test_far_out(self):
        far = 10 ** 39
        self.assertEqual(spells(with_roots(far)), [(0, -1), (far, 0), (far + 1, 1)])
        self.assertEqual(spells(with_roots(3, far, far + 2)), [
            (0, -1), (3, 0), (4, 1), (far, 0), (far + 1, -1), (far + 2, 0), (far + 3, 1)])
        self.assertEqual(first_with(with_roots(7, far), 8, 0), far)
        self.assertEqual(first_with(with_roots(7, far), 8, 1), far + 1)
        self.assertIsNone(first_with(with_roots(7), 8, 0))

    def test_the_last_zero(self):
        for roots, last in (((7,), 7), ((3, 7, 20), 20), ((20, 21, 22), 22), ((5, 5), 5), ((-3, -1), None), ((), None), ((0,), 0)):
            self.assertEqual(last_zero(with_roots(*roots), 0), last)
            self.assertEqual(last_zero(with_roots(*roots, lead=-2), 0), last)
            self.assertEqual(last_zero(with_roots(*roots, 19), 19), max(last or 0, 19))
            self.assertEqual(last_zero(with_roots(*roots), 6), last if last and last > 5 else None)
        self.assertEqual(last_zero(with_roots(10 ** 30, 4), 2), 10 ** 30)
        self.assertIsNone(last_zero((-9, 2), 0))

    def test_a_change_between_two_numbers(self):
        self.assertEqual(next_change((-7, 1), 0, None), 7)
        self.assertEqual(next_change((-7, 1), 7, None), 8)
        self.assertIsNone(next_change((-7, 1), 8, None))
        self.assertIsNone(next_change((-7, 1), 0, 7))
        self.assertEqual(next_change((-7, 1), 0, 8), 7)


class Spaces(unittest.TestCase):
    def test_independent_rows(self):
        self.assertEqual(space_of([]), [])
        self.assertEqual(space_of([(0, 0)]), [])
        self.assertEqual(space_of([(2, 4), (3, 6)]), [(1, 2)])
        self.assertEqual(len(space_of([(1, 2, 3), (2, 4, 7), (3, 6, 10)])), 2)
        rows = space_of([(1, 2, 3), (4, 5, 6), (7, 8, 10)])
        self.assertEqual(sorted(tuple(map(abs, row)) for row in rows), [(0, 0, 1), (0, 1, 0), (1, 0, 0)])

    def test_the_same_space(self):
        below = steps(12)
        for number in range(100):
            basis = [tuple(below(9) - 4 for k in range(4)) for row in range(1 + below(3))]
            sums = [
                tuple(sum(factor * row[k] for factor, row in zip(factors, basis)) for k in range(4))
                for factors in [[below(7) - 3 for row in basis] for time in range(4)]
            ]
            space = space_of(basis)
            self.assertEqual(len(space_of(basis + sums)), len(space))
            self.assertEqual(len(space_of(space + sums)), len(space))
            for row in space:
                lead = [k for k in range(4) if row[k]][0]
                self.assertEqual([other for other in space if other[lead]], [row])


if __name__ == "__main__":
    unittest.main()
