import unittest

from evenkeeps import limits


class Limits(unittest.TestCase):
    def test_the_constants(self):
        expected = {
            "MOST_PLACES": 3, "MOST_STATEMENTS": 24, "MOST_DRAWS": 6, "MOST_NESTED": 4, "MOST_ON_A_WAY": 3,
            "MOST_LENGTH": 60, "SETTLED": 19,
        }
        found = {name: getattr(limits, name) for name in vars(limits) if name.isupper()}
        self.assertEqual(found, expected)
        for value in found.values():
            self.assertIs(type(value), int)


if __name__ == "__main__":
    unittest.main()
