import unittest

from evenkeeps.errors import InvalidText
from evenkeeps.evenness import is_even
from evenkeeps.forms import all_forms, form_text
from evenkeeps.gaps import even_fillings, fillings
from evenkeeps.samplers import Sampler
from tests.reference import Walk, random_text
from tests.support import ODD, caught, steps, text_of
from tests.texts import PAIR, SINGLE, TRIPLE

FORMS = sorted(form_text((a, b)) for a in range(4) for b in range(-9, 10))


def below_one(form):
    return eval(form, {"n": 1}) < 1


class Fillings(unittest.TestCase):
    def check(self, text, expected):
        with self.subTest(text):
            self.assertEqual(fillings(text), expected)
            self.assertEqual(fillings(text=text), expected)
            even = tuple(form for form in expected if is_even(Sampler(text.replace("?", form))))
            self.assertEqual(even_fillings(text), even)
            self.assertEqual(even_fillings(text=text), even)

    def test_all_forms(self):
        self.assertEqual(len(FORMS), 76)
        self.assertEqual(sorted(form_text(form) for form in all_forms()), FORMS)

    def test_behind_below(self):
        wanted = tuple(form for form in FORMS if not below_one(form))
        self.assertEqual(len(wanted), 42)
        self.check("places 1\ndraw r below ?\nif r is 0\n  put 0", wanted)
        self.check("places 2\ndraw r below ?", wanted)
        self.check(PAIR.replace("below n", "below ?"), wanted)
        self.check(TRIPLE.replace("below n", "below ?"), wanted)

    def test_behind_less(self):
        self.check("places 1\ndraw r below n\nif r < ?\n  put 0", tuple(FORMS))
        self.check(PAIR.replace("r < 2", "r < ?"), tuple(FORMS))

    def test_even_ones(self):
        self.assertEqual(
            even_fillings(SINGLE.replace("below n", "below ?")), ("n",) + tuple(f"n + {b}" for b in range(1, 10)))
        # With 0 or less nothing is ever kept; with 1, each item has its share.
        never = tuple(form for form in FORMS if form.startswith("-") or form == "0")
        self.assertEqual(even_fillings(SINGLE.replace("is 0", "< ?")), never + ("1",))
        self.assertEqual(even_fillings(PAIR.replace("r < 2", "r < ?")), ("2",))
        self.assertEqual(even_fillings(PAIR.replace("below n", "below ?")), ("n",))
        self.assertEqual(even_fillings("places 1\ndraw r below ?"), fillings("places 1\ndraw r below ?"))
        self.assertEqual(
            even_fillings("places 1\ndraw r below 3*n + 1\nif r < ?\n  put 0"), never + ("3",))
        self.assertEqual(even_fillings("places 1\ndraw r below ?\nput 0"), ())

    def test_the_order_is_that_of_texts(self):
        found = fillings("places 1\ndraw r below n\nif r < ?\n  put 0")
        self.assertEqual(found, tuple(sorted(found)))
        self.assertEqual(found[:3], ("-1", "-2", "-3"))
        self.assertEqual(found[-2:], ("n - 8", "n - 9"))

    def test_even_ones_by_a_walk(self):
        """That no other form makes the first lengths even."""
        for text in (
            SINGLE.replace("below n", "below ?"), SINGLE.replace("is 0", "< ?"), PAIR.replace("r < 2", "r < ?"),
            "places 1\ndraw r below 2*n\nif r < ?\n  put 0", "places 2\ndraw r below n\nif r is 0\n  put 0\nif r < ?\n  put 1",
        ):
            even = even_fillings(text)
            for form in fillings(text):
                found = Walk(text.replace("?", form)).first_uneven(8)
                if form in even:
                    self.assertIsNone(found)

    def test_programs_by_chance(self):
        below = steps(101)
        tried = 0
        while tried < 12:
            text = random_text(below, most_draws=1, most_lines=8)
            lines = text.split("\n")
            spots = [at for at, line in enumerate(lines) if "below" in line or (" < " in line and "if n" not in line)]
            if not spots:
                continue
            tried += 1
            at = spots[below(len(spots))]
            word = " below " if "below" in lines[at] else " < "
            lines[at] = lines[at].split(word)[0] + word + "?"
            gapped = "\n".join(lines)
            self.check(gapped, tuple(form for form in FORMS if word == " < " or not below_one(form)))


class Faults(unittest.TestCase):
    def test_other_faults_leave_no_fillings(self):
        gap = ("draw r below ?", "if r is 0", "  put 0")
        for lines in (
            (*gap, "put 1"), (*gap, "draw r below n"), ("if x < 2", "  put 0", *gap), (*gap, "draw s below 0"),
            (*gap, *["put 0"] * 22), (*gap, *(f"draw {name} below n" for name in "abc")),
            (*gap, *(f"draw {name} below n" for name in "abcdef")),
            (*gap, "if n < 2", "  if n < 2", "    if n < 2", "      if n < 2", "        if n < 2", "          put 0"),
            ("draw r below n", "if s < ?", "  put 0"), ("draw r below -1", "if r < ?", "  put 0"),
        ):
            text = text_of(*lines, places=1)
            self.assertEqual(fillings(text), ())
            self.assertEqual(even_fillings(text), ())

    def test_gaps_in_other_places(self):
        for text in (
            "", "?", "places ?", "places 1\n?", "places 1\nput ?", "places 1\nempty ?", "places 3\nexchange ? 2",
            "places 3\nexchange 0 ?", "places 1\ndraw ? below n", "places 1\ndraw r ? n", "places 1\n? r below n",
            "places 1\ndraw r below n\nif ? < 2\n  put 0", "places 1\ndraw r below n\nif r ? 2\n  put 0",
            "places 1\ndraw r below n\nif r is ?\n  put 0", "places 1\nif n < ?\n  put 0", "places 1\nif n is ?\n  put 0",
            "places 1\ndraw r below ? + 2", "places 1\ndraw r below n + ?", "places 1\ndraw r below n ? 2",
            "places 1\ndraw r below ?*n", "places 1\ndraw r below 2*?", "places 1\ndraw r below -?", "places 1\ndraw r below ?n",
            "places 1\ndraw r below  ?", "places 1\ndraw r below ? ", "places 1\ndraw r below?", "places 1?",
            "places 1\ndraw r below n\nif r < ?\n  put 0\nelse ?", "places 1\ndraw r below (?)",
        ):
            for deed in (fillings, even_fillings):
                self.assertEqual(caught(self, InvalidText, deed, text).value, text)

    def test_no_gap_or_two(self):
        for text in (
            SINGLE, "places 1", "places 1\ndraw r below ?\nif r < ?\n  put 0", "places 1\ndraw r below ??",
            "places 1\ndraw r below ? ?", "?" + SINGLE.replace("below n", "below ?"), "places 1\ndraw r below n ?",
        ):
            for deed in (fillings, even_fillings):
                self.assertEqual(caught(self, InvalidText, deed, text).value, text)

    def test_another_fault_in_the_lines(self):
        for text in (
            "places 4\ndraw r below ?", "places 1\ndraw r below ?\nput", "places 1\ndraw r below ?\n  put 0",
            "places 1\ndraw n below ?", "draw r below ?", "places 1\ndraw r below ?\n", "join 1\ndraw r below ?",
            "places 1\ndraw r below ?\nif r < 2",
        ):
            for deed in (fillings, even_fillings):
                self.assertEqual(caught(self, InvalidText, deed, text).value, text)

    def test_values_that_are_no_texts(self):
        for value in (None, 0, True, b"?", (), ("?",), ["?"], {"?": 1}, ODD, object(), len, Sampler(SINGLE), Sampler):
            for deed in (fillings, even_fillings):
                self.assertIs(caught(self, InvalidText, deed, value).value, value)


if __name__ == "__main__":
    unittest.main()
