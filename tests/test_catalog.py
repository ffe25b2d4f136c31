import unittest

from evenkeeps.catalog import fading, last, pair, single
from evenkeeps.errors import InvalidCount
from evenkeeps.samplers import Sampler
from tests.support import NO_NUMBERS, caught
from tests.texts import PAIR


class Texts(unittest.TestCase):
    def check(self, made, again, text):
        self.assertIs(type(made), Sampler)
        self.assertEqual(str(made), text)
        self.assertEqual(made, again)
        self.assertEqual(made, Sampler(text))

    def test_pair(self):
        self.check(pair(), pair(), PAIR)
        self.assertEqual(repr(pair()), "Sampler(2 places, 9 statements)")

    def test_single(self):
        self.check(single(), single(), "places 1\ndraw r below n\nif r is 0\n  put 0")

    def test_fading(self):
        for c in range(1, 10):
            self.check(fading(c), fading(c=c), f"places 1\ndraw r below {c}\nif r is 0\n  put 0")

    def test_last(self):
        self.check(last(1), last(k=1), "places 1\nput 0")
        self.check(last(2), last(k=2), "places 2\nexchange 0 1\nput 0")
        self.check(last(3), last(k=3), "places 3\nexchange 1 2\nexchange 0 1\nput 0")

    def test_they_differ(self):
        made = [pair(), single(), *[fading(c) for c in range(1, 10)], *[last(k) for k in (1, 2, 3)]]
        for at, one in enumerate(made):
            for other in made[:at]:
                self.assertNotEqual(one, other)


class Wrong(unittest.TestCase):
    def refuse(self, deed, value, **named):
        self.assertIs(caught(self, InvalidCount, deed, value).value, value)
        self.assertIs(caught(self, InvalidCount, deed, **{name: value for name in named}).value, value)

    def test_fading(self):
        for wrong in (*NO_NUMBERS, 0, 10, 11, -1, -9, 60, 10 ** 39, single(), fading):
            self.refuse(fading, wrong, c=None)

    def test_last(self):
        for wrong in (*NO_NUMBERS, 0, 4, 5, -1, -3, 60, 10 ** 39, single(), last):
            self.refuse(last, wrong, k=None)


if __name__ == "__main__":
    unittest.main()
