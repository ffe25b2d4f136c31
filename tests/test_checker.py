import unittest

from evenkeeps.catalog import fading, last, pair, single
from evenkeeps.certificates import certify_even
from evenkeeps.chances import chance, pair_chance
from evenkeeps.checker import holds
from evenkeeps.joins import poured
from evenkeeps.samplers import Sampler
from tests.reference import Walk, patterns_of
from tests.support import ODD, text_of
from tests.test_joins import THREE, TWO, join_of, told
from tests.texts import (
    LATE_19, LATE_20, LATE_21, LATE_PAIRS, PAIR, PAIRLESS, SHUFFLED, SHUFFLED_THREE, SINGLE, TRIPLE, idle,
)

POURED = str(poured())
FADING = str(fading(2))
LAST_TWO = str(last(2))
ODD_JOIN = join_of("draw r below m + n", "if r < m", "  take 0 0")
EMPTYING = join_of("take 0 0", "take 1 0", places=2)
# Things that never stand in the place of anything else.
FOREIGN = (
    None, True, False, 0, 1, -1, 19, 60, 61, 10 ** 30, "", "1", "even", "uneven", b"1", b"even", (), (1,), (1, 2),
    ((1, 2),), [], [1, 2], {}, {1}, ODD, object(), len, int, Sampler, pair(), (ODD,), ("1",), (("1",),), "places 1",
)
TRUE_CLAIMS = (
    ("uneven", FADING, 2, 1, 2), ("uneven", FADING, 60, 60, 1), ("uneven", LATE_19, 19, 1, 19), ("uneven", LATE_21, 21, 3, 21),
    ("uneven pairs", LAST_TWO, 3, (1, 2), (2, 3)), ("uneven pairs", LAST_TWO, 60, (59, 60), (1, 60)),
    ("uneven pairs", PAIRLESS, 3, (1, 2), (1, 3)), ("uneven pairs", LATE_PAIRS, 12, (1, 2), (3, 12)),
    ("apart", SINGLE, FADING, 1, 1, 0), ("apart", PAIR, LAST_TWO, 2, 1, 0), ("apart", LATE_20, SINGLE, 20, 20 - 1, 0),
    ("apart", TRIPLE, SHUFFLED_THREE, 1, 1, 2),
    ("unfair", ODD_JOIN, 1, 2, (0,)), ("unfair", ODD_JOIN, 60, 59, (1,)), ("unfair", EMPTYING, 2, 2, (1, None)),
    ("unfair", EMPTYING, 2, 2, (0, 0)),
    ("off", PAIR, ("1", "(2)/(n)"), 1, 1), ("off", SINGLE, ("1", "(1)/(n - 7)"), 7, 3), ("off", SINGLE, ("(1)/(n - 7)", "1"), 9, 7),
    ("off", SINGLE, ("0", "n"), 60, 60), ("off", FADING, ("n", "(1)/(2*n)"), 3, 1),
    ("fair", POURED), ("fair", TWO), ("fair", THREE),
)
EVEN = (SINGLE, PAIR, TRIPLE, SHUFFLED, SHUFFLED_THREE, PAIRLESS, LATE_PAIRS, idle(3), idle(4), idle(3, places=3), "places 3")
ONES = ("1", "1")


class Claims(unittest.TestCase):
    def accept(self, claim, certificate=()):
        with self.subTest(claim=claim, certificate=certificate):
            self.assertIs(holds(claim, certificate), True)
            self.assertIs(holds(certificate=certificate, claim=claim), True)

    def refuse(self, claim, certificate=()):
        self.assertIs(holds(claim, certificate), False, (claim, certificate))

    def test_true_ones(self):
        for claim in TRUE_CLAIMS:
            self.accept(claim)

    def test_false_ones(self):
        for claim in (
            ("uneven", SINGLE, 5, 1, 2), ("uneven", PAIR, 5, 1, 5), ("uneven", FADING, 2, 1, 1), ("uneven", LATE_19, 18, 1, 18),
            ("uneven", LATE_19, 19, 1, 2), ("uneven", LATE_21, 20, 1, 20), ("uneven", FADING, 1, 1, 1),
            ("uneven pairs", LAST_TWO, 3, (1, 2), (1, 3)), ("uneven pairs", PAIR, 3, (1, 2), (1, 3)),
            ("uneven pairs", LAST_TWO, 3, (2, 3), (2, 3)), ("uneven pairs", LATE_PAIRS, 11, (1, 2), (3, 11)),
            ("uneven pairs", SINGLE, 4, (1, 2), (3, 4)),
            ("apart", SINGLE, SINGLE, 4, 1, 0), ("apart", LATE_20, SINGLE, 19, 1, 0), ("apart", PAIR, LAST_TWO, 1, 1, 0),
            ("apart", PAIR, LAST_TWO, 1, 1, 1), ("apart", SINGLE, PAIR, 4, 1, 0), ("apart", PAIR, SINGLE, 4, 1, 0),
            ("unfair", POURED, 1, 2, (0,)), ("unfair", ODD_JOIN, 2, 2, (0,)), ("unfair", ODD_JOIN, 1, 2, (None,)),
            ("unfair", TWO, 5, 7, (0, 1)), ("unfair", EMPTYING, 2, 2, (None, 0)), ("unfair", EMPTYING, 2, 2, (None, None)),
            ("off", PAIR, ("1", "(2)/(n)"), 2, 1), ("off", SINGLE, ("1", "(1)/(n)"), 60, 60),
            ("off", SINGLE, ("(1)/(7*n - 1)", "(41)/(n)"), 7, 6), ("off", FADING, ("n", "(1)/(2*n)"), 2, 1),
            ("off", FADING, ("n", "(1)/(2*n)"), 1, 1),
            ("fair", ODD_JOIN), ("fair", EMPTYING), ("fair", "join 1"),
        ):
            self.refuse(claim)

    def test_fair_up_to_some_sizes_only(self):
        late = join_of(
            "draw r below m + n", "if r < n", "  if r < n - 9", "    if r < 9", "      take 0 0",
            "    if r is 9", "      take 0 0", "  else", "    take 0 0")
        self.refuse(("fair", late))
        self.accept(("unfair", late, 1, 20, (0,)))
        self.refuse(("unfair", late, 1, 19, (0,)))

    def test_all_numbers_of_some_claims(self):
        """That just the claims are accepted whose chances differ."""
        for text in (FADING, PAIRLESS, LAST_TWO, LATE_PAIRS):
            sampler = Sampler(text)
            for n in (1, 3, 5):
                for t in range(0, n + 2):
                    for u in range(0, n + 2):
                        fits = 1 <= min(t, u) and max(t, u) <= n
                        differ = fits and chance(sampler, n, t) != chance(sampler, n, u)
                        self.assertIs(holds(("uneven", text, n, t, u), ()), differ)
                        for v in range(0, n + 1):
                            fits = 1 <= t < u <= n and v > 1
                            differ = fits and v <= n and pair_chance(sampler, n, t, u) != pair_chance(sampler, n, 1, v)
                            self.assertIs(holds(("uneven pairs", text, n, (t, u), (1, v)), ()), differ)

    def test_all_patterns_of_some_joins(self):
        for text in (POURED, ODD_JOIN, TWO, EMPTYING):
            places = int(text.split()[1])
            for m in (places - 1, places, places + 2):
                for n in (places - 1, places, places + 1):
                    found = patterns_of(text, m, n) if min(m, n) >= places else {}
                    for one in (0, 1, None, 2, -1, True):
                        for other in (0, 1, None) if places == 2 else (None,):
                            pattern = (one, other)[:places]
                            fits = min(m, n) >= places and one in (0, 1, None) and one is not True
                            differ = fits and found.get(pattern, 0) != told(pattern, m, n)
                            self.assertIs(holds(("unfair", text, m, n, pattern), ()), differ)

    def test_the_chances_of_a_formula(self):
        walk = dict(Walk(FADING).chances(5))
        for n in range(1, 6):
            for t in range(1, n + 1):
                share = sum(walk[n][t])
                right = f"({share.numerator})/({share.denominator})" if share.denominator > 1 else str(share.numerator)
                self.refuse(("off", FADING, ("1", right), n, t))
                self.refuse(("off", FADING, (right, "1"), n, t))
                self.accept(("off", FADING, ("2", right), n, t))

    def test_bounds(self):
        self.accept(("uneven", FADING, 60, 59, 60))
        for n, t, u in ((61, 1, 2), (0, 1, 2), (2, 0, 1), (2, 1, 3), (2, 3, 1), (-1, 1, 2), (10 ** 20, 1, 2)):
            self.refuse(("uneven", FADING, n, t, u))
        for one, other in (((2, 1), (2, 3)), ((1, 1), (2, 3)), ((0, 1), (2, 3)), ((1, 2), (2, 4)), ((1, 2, 3), (2, 3)), ((1,), (2, 3))):
            self.refuse(("uneven pairs", LAST_TWO, 3, one, other))
            self.refuse(("uneven pairs", LAST_TWO, 3, other, one))
        for n, t, p in ((1, 1, 1), (1, 1, -1), (1, 2, 0), (1, 0, 0), (0, 1, 0), (61, 1, 0)):
            self.refuse(("apart", SINGLE, FADING, n, t, p))
        for m, n in ((1, 2), (2, 1), (61, 2), (2, 61), (0, 0)):
            self.refuse(("unfair", EMPTYING, m, n, (0, 0)))
        self.accept(("unfair", EMPTYING, 60, 60, (0, 0)))
        for pattern in ((0,), (0, 0, 0), (0, 2), (2, 0), (0, -1), (True, 0), (0, False), ("0", 0), [0, 0], (0, (0,)), 0, None, "00"):
            self.refuse(("unfair", EMPTYING, 2, 2, pattern))
        for n, t in ((61, 1), (0, 1), (5, 6), (5, 0)):
            self.refuse(("off", SINGLE, ("1", "1"), n, t))

    def test_texts_that_are_read(self):
        for text in ("(2)/(2*n)", "1*n", "n^1", "n^100", " 1", "1 ", "+1", "(1)", "01", "n + 0", "(1)/(1)", "-0", "2/3", "(1)/(0)", "m"):
            self.refuse(("off", SINGLE, (text, "1"), 5, 1))
            self.refuse(("off", SINGLE, ("1", text), 5, 1))
        self.accept(("off", SINGLE, ("n^99", "1"), 5, 2))
        for formula in (("1",), ("1", "1", "1"), ["1", "2"], "12", (1, 1), ("1", 2), (("1", "1"),), {"1": "1"}):
            self.refuse(("off", SINGLE, formula, 5, 1))
        for text in (FADING + "\n", " " + FADING, FADING.replace("  put", "   put"), FADING.replace("put 0", "put 1"),
                     FADING.replace("below 2", "below 0"), FADING.replace("r is", "q is"), FADING.encode(), "", POURED):
            self.refuse(("uneven", text, 2, 1, 2))
            self.refuse(("uneven pairs", text, 3, (1, 2), (2, 3)))
            self.refuse(("apart", text, FADING, 1, 1, 0))
            self.refuse(("apart", FADING, text, 1, 1, 0))
            self.refuse(("off", text, ("1", "7"), 1, 1))
            self.refuse(("even", text), ((("1",),), (("1",),), 19))
        for text in (POURED + "\n", POURED.replace("m + n", "n + m"), POURED.replace("take 0 0", "take 0 1"), SINGLE, POURED.encode(),
                     POURED.replace("below m + n", "below m"), POURED.replace("below m + n", "below 0"), ""):
            self.refuse(("fair", text))
            self.refuse(("unfair", text, 1, 1, (0,)))

    def test_foreign_things(self):
        for claim in TRUE_CLAIMS:
            for at in range(len(claim)):
                for thing in FOREIGN:
                    if at > 0 and isinstance(thing, (int, tuple)) and not isinstance(thing, bool):
                        continue
                    if isinstance(thing, str) and thing in ("places 1", claim[0]):
                        continue
                    self.refuse(claim[:at] + (thing,) + claim[at + 1:])
                self.refuse(claim[:at] + claim[at + 1:])
                self.refuse(claim[:at] + (claim[at],) + claim[at:])
            for thing in FOREIGN:
                self.refuse(claim + (thing,))
                if not (isinstance(thing, tuple) and thing == ()):
                    self.refuse(claim, thing)
            self.refuse(list(claim))
            self.refuse(claim, [])
            self.refuse(claim, None)
            self.refuse((claim,))
        for one in FOREIGN:
            for other in FOREIGN:
                self.refuse(one, other)
                self.refuse((one,), other)
                self.refuse((one, other), ())

    def test_a_word_of_another_claim(self):
        words = ("uneven", "uneven pairs", "apart", "unfair", "off", "fair", "even", "Even", "uneven ", "even in pairs", "")
        for claim in TRUE_CLAIMS:
            for word in words:
                if word != claim[0]:
                    self.refuse((word,) + claim[1:])


class Even(unittest.TestCase):
    def test_right_ones(self):
        for text in EVEN:
            claim, certificate = certify_even(Sampler(text))
            self.assertIs(holds(claim, certificate), True)
            self.assertIs(holds(claim, ()), False)
            self.assertEqual(claim, ("even", text))

    def test_a_greater_last(self):
        for text in EVEN:
            claim, (columns, leads, last) = certify_even(Sampler(text))
            for other in range(-1, 62):
                self.assertIs(holds(claim, (columns, leads, other)), last <= other <= 60, (text, other))
            for other in (True, None, str(last), (last,), ODD, [last]):
                self.assertIs(holds(claim, (columns, leads, other)), False)

    def test_certificates_of_other_claims(self):
        given = [certify_even(Sampler(text)) for text in EVEN]
        for claim, certificate in given:
            for other, another in given:
                if certificate != another:
                    self.assertIs(holds(claim, another), False, (claim, another))
            self.assertIs(holds(claim + (1,), certificate), False)
            self.assertIs(holds(claim[:1], certificate), False)
            self.assertIs(holds(list(claim), certificate), False)
            self.assertIs(holds(("fair",) + claim[1:], certificate), False)

    def test_uneven_samplers_have_none(self):
        parts = [certificate for claim, certificate in (certify_even(Sampler(text)) for text in EVEN)]
        for text in (FADING, LAST_TWO, str(last(1)), str(last(3)), LATE_19, LATE_20, LATE_21):
            for certificate in parts:
                self.assertIs(holds(("even", text), certificate), False)

    def test_even_but_for_the_late_items_or_the_early_ones(self):
        single_lead = ((("1",),), (("(n)/(n + 1)",),))
        self.assertIs(holds(("even", SINGLE), (*single_lead, 19)), True)
        # The table is that of `single` from some step on, but something else happens before.
        for step in range(1, 13):
            text = text_of(f"if n is {step}", "  empty 0", "else", "  draw r below n", "  if r is 0", "    put 0", places=1)
            self.assertIs(holds(("even", text), (*single_lead, 19)), False)
            self.assertIs(holds(("even", text), (*single_lead, 60)), False)
        # All is even up to 20, but not later.
        text = LATE_20
        for lead in ("(n)/(n + 1)", "1", "0"):
            for last_one in (19, 20, 60):
                self.assertIs(holds(("even", text), ((("1",),), ((lead,),), last_one)), False)
        # The new items have another chance than the old ones, by the right table.
        for form, lead in (("n + 1", "(n + 1)/(n + 2)"), ("2*n", "(2*n + 1)/(2*n + 2)")):
            text = text_of(f"draw r below {form}", "if r is 0", "  empty 0", places=1)
            self.assertIs(holds(("even", text), ((("1",),), ((lead,),), 19)), True)
            text = text_of(f"draw r below {form}", "if r is 0", "  empty 0", "  if n is 12", "    put 0", places=1)
            self.assertIs(holds(("even", text), ((("1",),), ((lead,),), 19)), False)
            text = text_of(f"draw r below {form}", "draw s below 2", "if r is 0", "  empty 0", "  if s is 0", "    put 0", places=1)
            self.assertIs(holds(("even", text), ((("1",),), ((lead,),), 19)), form == "n + 1")

    def test_changed_parts(self):
        claim, (columns, leads, last) = certify_even(Sampler(idle(3)))
        self.assertEqual(last, 27)
        texts = ("0", "1", "2", "-1", "n", "(1)/(n)", "(n)/(n + 1)", "(26)/(27)", "(27)/(26)", "(n + 1)/(n)")
        for at in range(2):
            for spot in range(2):
                for text in texts:
                    if text != columns[at][spot]:
                        self.assertIs(holds(claim, (self.put(columns, at, spot, text), leads, last)), False)
                    if text != leads[at][spot]:
                        self.assertIs(holds(claim, (columns, self.put(leads, at, spot, text), last)), False)
                for thing in FOREIGN:
                    if not isinstance(thing, str):
                        self.assertIs(holds(claim, (self.put(columns, at, spot, thing), leads, last)), False)
                        self.assertIs(holds(claim, (columns, self.put(leads, at, spot, thing), last)), False)

    def put(self, rows, at, spot, thing):
        row = rows[at][:spot] + (thing,) + rows[at][spot + 1:]
        return rows[:at] + (row,) + rows[at + 1:]

    def test_wrong_shapes(self):
        for text in EVEN:
            claim, (columns, leads, last) = certify_even(Sampler(text))
            for wrong in (
                (columns, leads), (columns, leads, last, last), (columns, last, leads), (leads, columns[:0], last), [columns, leads, last],
                (list(columns), leads, last), (columns, list(leads), last), (columns[:-1], leads, last), (columns, leads[:-1], last),
                (columns + columns[:1], leads, last), (columns, leads + leads[:1], last),
                (tuple(list(row) for row in columns), leads, last), (columns, tuple(list(row) for row in leads), last),
                (tuple(row + ("1",) for row in columns), leads, last), (columns, tuple(row + ("1",) for row in leads), last),
                (tuple(row[1:] for row in columns), leads, last), (columns, tuple(row[1:] for row in leads), last),
                ((), (), last), (columns, (), last), ((), leads, last), (None, leads, last), (columns, None, last), (columns, leads, None),
                (ODD, leads, last), (columns, ODD, last), (columns, leads, ODD), (ODD, ODD, ODD), "abc", (columns, columns, last, ()),
                (columns, leads, last - 100), (str(columns), leads, last), (tuple("".join(row) for row in columns), leads, last),
            ):
                self.assertIs(holds(claim, wrong), False, wrong)

    def test_other_columns(self):
        """Certificates that are right, but not those of certify_even."""
        claim = ("even", SINGLE)
        lead = "(n)/(n + 1)"
        # The column n is led to (n + 1) * n / (n + 1), that is n.
        self.assertIs(holds(claim, ((("1",), ("n",)), ((lead, "0"), ("0", "1")), 19)), True)
        self.assertIs(holds(claim, ((("1",), ("n",)), ((lead, "0"), ("0", lead)), 19)), False)
        self.assertIs(holds(claim, ((("1",), ("n",)), ((lead, "0"), ("n", "0")), 19)), True)
        self.assertIs(holds(claim, ((("1",), ("n",)), (("0", "(1)/(n + 1)"), ("n", "0")), 19)), True)
        self.assertIs(holds(claim, ((("1",), ("1",), ("1",)), ((lead, "0", "0"), ("0", lead, "0"), ("0", "0", lead)), 19)), True)
        four = tuple(("1",) for k in range(4))
        leads = tuple(tuple(lead if k == at else "0" for k in range(4)) for at in range(4))
        self.assertIs(holds(claim, (four, leads, 19)), False)
        # The first column must be that of ones.
        self.assertIs(holds(claim, ((("n",), ("1",)), (("1", "0"), ("0", lead)), 19)), False)
        self.assertIs(holds(claim, ((("2",),), ((lead,),), 19)), False)
        self.assertIs(holds(claim, ((("0",),), ((lead,),), 19)), False)
        self.assertIs(holds(("even", PAIR), ((ONES, ("2", "2")), ((lead, "0"), ("0", lead)), 19)), True)
        self.assertIs(holds(("even", PAIR), ((("1", "2"), ONES), ((lead, "0"), ("0", lead)), 19)), False)

    def test_a_first_column_that_is_not_that_of_ones(self):
        # All other conditions hold, since nothing is ever kept.
        for column, fine in ((ONES, True), (("1", "2"), False), (("2", "1"), False), (("2", "2"), False), (("1", "0"), False)):
            self.assertIs(holds(("even", "places 2"), ((column,), (("1",),), 19)), fine)

    def test_columns_with_unlike_products(self):
        lead = ("(n)/(n + 1)", "0")
        leads = (lead, lead[::-1])
        # The items 1 and 2 of `pair` do not lie in either place with the same chance, the others do.
        for column in (("1", "0"), ("0", "1"), ("1", "2"), ("(1)/(2)", "(1)/(3)")):
            for last_one in (19, 20, 60):
                self.assertIs(holds(("even", PAIR), ((ONES, column), leads, last_one)), False)
                self.assertIs(holds(("even", PAIR), ((ONES, column, ONES), tuple(
                    tuple(lead[0] if k == at else "0" for k in range(3)) for at in range(3)), last_one)), False)
        for column in (("1", "1"), ("3", "3"), ("(1)/(2)", "(1)/(2)"), ("0", "0")):
            self.assertIs(holds(("even", PAIR), ((ONES, column), leads, 19)), True)
        # Here all items up to 19 lie in place 0, if they are kept, but later ones can lie in place 1, too.
        text = text_of(
            "draw r below n", "draw s below 3*n", "if r is 0", "  empty 0", "  empty 1", "  put 0", "  if s < n - 9",
            "    if s < 9", "      draw q below 1", "    else", "      if s is 9", "        draw q below 1", "      else",
            "        put 1", places=2)
        self.assertIs(holds(*certify_even(Sampler(text))), True)
        for column in (("1", "0"), ("0", "1")):
            for last_one in (19, 20, 60):
                self.assertIs(holds(("even", text), ((ONES, column), leads, last_one)), False)

    def test_columns_of_unlike_ratios(self):
        """The products at the last length are those of the ratios, also where these have unlike denominators."""
        text = text_of("draw r below n", "if r is 0", "  empty 0", "  empty 1", "  put 0", places=2)
        lead = ("(n)/(n + 1)", "0")
        for column in (("1", "0"), ("(1)/(3)", "(1)/(7)"), ("(2)/(5)", "-4")):
            self.assertIs(holds(("even", text), ((ONES, column), (lead, lead[::-1]), 23)), True)
        # The item 1 lies in place 0 or in place 2, the item 2 in place 1, the others in all of them.
        text = text_of(
            "if n < 3", "  if n is 1", "    put 0", "    draw s below 2", "    if s is 0", "      exchange 0 2", "  else", "    put 1",
            "else", "  draw r below n", "  if r is 0", "    empty 0", "    empty 2", "    put 0", "    draw s below 2", "    if s is 0",
            "      exchange 0 2", "  if r is 1", "    put 1")
        leads = (lead, lead[::-1])
        for column, fine in (
            (("(2)/(3)", "(1)/(2)", "(1)/(3)"), True), (("(1)/(3)", "(1)/(2)", "(2)/(3)"), True), (("1", "1", "1"), True),
            (("(1)/(n)", "0", "(-1)/(n)"), False), (("(2)/(3)", "(1)/(3)", "(1)/(2)"), False), (("1", "0", "1"), False),
        ):
            self.assertIs(holds(("even", text), ((("1",) * 3, column), leads, 40)), fine)

    def test_products_that_are_equal_at_the_last_length_only(self):
        text = PAIR + "\nif n is 12\n  draw s below 2\n  if s is 0\n    exchange 0 1"
        lead = ("(n)/(n + 1)", "0")
        for column in (("1", "0"), ("0", "1"), ("3", "-5")):
            for last_one in (19, 30):
                self.assertIs(holds(("even", text), ((ONES, column), (lead, lead[::-1]), last_one)), True)
                self.assertIs(holds(("even", PAIR), ((ONES, column), (lead, lead[::-1]), last_one)), False)

    def test_gaps(self):
        """A second column 1 / (n - g), which is led to (n / (n + 1)) / (n + 1 - g)."""
        lead = "(n)/(n + 1)"
        for gap in (18, 19, 20, 30, 59, 60):
            column = f"(1)/(n - {gap})"
            # As a multiple of the first column the lead has its gap one before, as one of the second column at 1 less.
            below = f"(n)/(n^2 - {gap - 2}*n - {gap - 1})"
            for last in range(17, 62):
                found = holds(("even", SINGLE), ((("1",), (column,)), ((lead, "0"), (below, "0")), last))
                self.assertIs(found, 19 <= last <= 60 and last > gap, (gap, last))
            # A gap in a lead alone: the difference of two columns that are the same.
            more = f"(1)/(n - {gap})"
            less = f"(-1)/(n - {gap})"
            for last in range(17, 62):
                found = holds(("even", SINGLE), (
                    (("1",), ("1",), ("1",)), ((lead, more, less), ("0", lead, "0"), ("0", "0", lead)), last))
                self.assertIs(found, 19 <= last <= 60 and last > gap, (gap, last))
        for gap in (61, 62, 1000, 10 ** 12, 10 ** 30):
            column = f"(1)/(n - {gap})"
            below = f"(n)/(n^2 - {gap - 2}*n - {gap - 1})"
            for last in (19, 30, 60):
                self.assertIs(holds(("even", SINGLE), ((("1",), (column,)), ((lead, "0"), (below, "0")), last)), False)
        # There is none at a whole number.
        half = "(1)/(2*n - 61)"
        after = "(n)/(2*n^2 - 57*n - 59)"
        self.assertIs(holds(("even", SINGLE), ((("1",), (half,)), ((lead, "0"), (after, "0")), 19)), True)

    def test_arguments_stay(self):
        claim, certificate = certify_even(pair())
        holds(claim, certificate)
        self.assertEqual(claim, ("even", PAIR))
        self.assertEqual(certificate, (((ONES),), (("(n)/(n + 1)",),), 19))
        self.assertEqual(certify_even(single())[1][2], 19)


if __name__ == "__main__":
    unittest.main()
