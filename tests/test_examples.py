"""The examples of the document, word for word."""

import unittest

from evenkeeps.errors import NotDrawn


class Examples(unittest.TestCase):
    def test_ratios(self):
        from evenkeeps.ratios import Ratio
        n = Ratio((0, 1))
        part = (n * 2 - 2).over(n * n - 1)
        self.assertEqual(
            [str(part), part(3), str(part.later(1)), str(1 - part), part.bottom, bool(part - part), Ratio.read("(1)/(2)")(5), str(-(n ** 2) * 3 + n + 4)],
            ['(2)/(n + 1)', (1, 2), '(2)/(n + 2)', '(n - 1)/(n + 1)', (1, 1), False, (1, 2), '-3*n^2 + n + 4'],
        )

    def test_samplers(self):
        from evenkeeps.samplers import Sampler, ways
        sampler = Sampler("places 1\ndraw r below n + 1\nif r < 2\n  put 0")
        self.assertEqual(
            [sampler.places, sampler.statements, sampler.names, list(ways(sampler, 3)), repr(sampler)],
            [1, 3, ('r',), [((1, 2), ('new',)), ((1, 2), (0,))], 'Sampler(1 places, 3 statements)'],
        )

    def test_a_sampler_that_is_none(self):
        from evenkeeps.samplers import Sampler
        with self.assertRaises(NotDrawn) as held:
            Sampler("places 1\nif r < 2\n  put 0\ndraw r below n")
        self.assertEqual(held.exception.line, 1)


if __name__ == "__main__":
    unittest.main()
