import types
import unittest
from fractions import Fraction

from evenkeeps.errors import InvalidLength, NotASampler
from evenkeeps.samplers import Sampler, ways
from tests.reference import random_text, ways_of
from tests.support import NO_NUMBERS, ODD, caught, steps, text_of
from tests.texts import PAIR


def listed(lines, step, places=2):
    return list(ways(Sampler(text_of(*lines, places=places)), step))


class Moves(unittest.TestCase):
    def moves(self, *lines, places=3, step=5):
        (chance, moves), = listed(lines, step, places)
        self.assertEqual(chance, (1, 1))
        self.assertIs(type(moves), tuple)
        return moves

    def test_nothing_is_done(self):
        self.assertEqual(self.moves(places=1), (0,))
        self.assertEqual(self.moves(places=2), (0, 1))
        self.assertEqual(self.moves(places=3), (0, 1, 2))
        self.assertEqual(self.moves(places=3, step=1), (0, 1, 2))

    def test_put(self):
        self.assertEqual(self.moves("put 0"), ("new", 1, 2))
        self.assertEqual(self.moves("put 2"), (0, 1, "new"))
        self.assertEqual(self.moves("put 0", "put 0"), ("new", 1, 2))
        self.assertEqual(self.moves("put 0", "put 1"), (None, "new", 2))
        self.assertEqual(self.moves("put 1", "put 0"), ("new", None, 2))
        self.assertEqual(self.moves("put 0", "put 1", "put 2"), (None, None, "new"))
        self.assertEqual(self.moves("put 0", "put 1", "put 0"), ("new", None, 2))

    def test_a_new_item_that_was_lost_comes_back(self):
        self.assertEqual(self.moves("put 0", "empty 0", "put 1"), (None, "new", 2))
        self.assertEqual(self.moves("put 0", "empty 0", "put 0"), ("new", 1, 2))
        self.assertEqual(self.moves("put 0", "empty 0"), (None, 1, 2))

    def test_exchange(self):
        self.assertEqual(self.moves("exchange 0 1"), (1, 0, 2))
        self.assertEqual(self.moves("exchange 0 2"), (2, 1, 0))
        self.assertEqual(self.moves("exchange 1 2"), (0, 2, 1))
        self.assertEqual(self.moves("exchange 0 1", "exchange 0 1"), (0, 1, 2))
        self.assertEqual(self.moves("exchange 0 1", "exchange 1 2"), (1, 2, 0))
        self.assertEqual(self.moves("exchange 1 2", "exchange 0 1", "put 0"), ("new", 0, 1))
        self.assertEqual(self.moves("put 0", "exchange 0 2"), (2, 1, "new"))
        self.assertEqual(self.moves("put 0", "exchange 0 2", "put 1"), (2, "new", None))
        self.assertEqual(self.moves("empty 0", "exchange 0 1"), (1, None, 2))

    def test_empty(self):
        self.assertEqual(self.moves("empty 0"), (None, 1, 2))
        self.assertEqual(self.moves("empty 2"), (0, 1, None))
        self.assertEqual(self.moves("empty 0", "empty 1", "empty 2"), (None, None, None))
        self.assertEqual(self.moves("empty 1", "put 1"), (0, "new", 2))

    def test_a_place_that_was_empty_before_counts_like_any_other(self):
        self.assertEqual(self.moves("exchange 0 1", step=1), (1, 0, 2))
        self.assertEqual(self.moves("exchange 0 1", "put 0", step=1), ("new", 0, 2))


class Order(unittest.TestCase):
    def test_the_sampler_of_the_document(self):
        pair = Sampler(PAIR)
        one = (1, 1)
        self.assertEqual(list(ways(pair, 1)), [(one, ("new", 1))])
        self.assertEqual(list(ways(pair, 2)), [(one, (0, "new"))])
        for step in (3, 4, 18, 19, 20, 59, 60):
            share = Fraction(step - 2, step)
            self.assertEqual(list(ways(pair, step)), [
                ((1, step), ("new", 1)), ((1, step), (0, "new")), ((share.numerator, share.denominator), (0, 1)),
            ])

    def test_less(self):
        lines = ["draw r below n", "if r < 2", "  put 0", "else", "  put 1"]
        self.assertEqual(listed(lines, 6), [((1, 3), ("new", 1)), ((2, 3), (0, "new"))])
        self.assertEqual(listed(lines, 2), [((1, 1), ("new", 1))])
        self.assertEqual(listed(lines, 1), [((1, 1), ("new", 1))])
        lines[1] = "if r < 0"
        self.assertEqual(listed(lines, 6), [((1, 1), (0, "new"))])
        lines[1] = "if r < -3"
        self.assertEqual(listed(lines, 6), [((1, 1), (0, "new"))])
        lines[1] = "if r < n"
        self.assertEqual(listed(lines, 6), [((1, 1), ("new", 1))])
        lines[1] = "if r < 2*n - 9"
        self.assertEqual(listed(lines, 6), [((1, 2), ("new", 1)), ((1, 2), (0, "new"))])

    def test_a_test_that_fails_without_an_else_is_a_way(self):
        self.assertEqual(listed(["draw r below n", "if r < 2", "  put 0"], 6), [((1, 3), ("new", 1)), ((2, 3), (0, 1))])

    def test_is_that_fails_counts_as_two_ways(self):
        lines = ["draw r below n", "if r is 2", "  put 0", "else", "  put 1"]
        self.assertEqual(listed(lines, 6), [((1, 6), ("new", 1)), ((1, 3), (0, "new")), ((1, 2), (0, "new"))])
        self.assertEqual(listed(lines, 3), [((1, 3), ("new", 1)), ((2, 3), (0, "new"))])
        self.assertEqual(listed(lines, 2), [((1, 1), (0, "new"))])
        self.assertEqual(listed(lines[:3], 6), [((1, 6), ("new", 1)), ((1, 3), (0, 1)), ((1, 2), (0, 1))])
        lines[1] = "if r is 0"
        self.assertEqual(listed(lines, 6), [((1, 6), ("new", 1)), ((5, 6), (0, "new"))])
        self.assertEqual(listed(lines, 1), [((1, 1), ("new", 1))])
        lines[1] = "if r is 9"
        self.assertEqual(listed(lines, 6), [((1, 1), (0, "new"))])
        self.assertEqual(listed(lines, 10), [((1, 10), ("new", 1)), ((9, 10), (0, "new"))])
        self.assertEqual(listed(lines, 12), [((1, 12), ("new", 1)), ((3, 4), (0, "new")), ((1, 6), (0, "new"))])

    def test_a_test_of_n_goes_one_way(self):
        for line in ("if n is 5", "if n < 5"):
            lines = [line, "  put 0", "else", "  put 1"]
            for step in (1, 4, 5, 6, 60):
                holds = step == 5 if "is" in line else step < 5
                self.assertEqual(listed(lines, step), [((1, 1), ("new", 1) if holds else (0, "new"))])

    def test_ways_are_never_joined(self):
        lines = ["draw r below 4", "if r < 1", "  put 0", "else", "  put 0"]
        self.assertEqual(listed(lines, 3), [((1, 4), ("new", 1)), ((3, 4), ("new", 1))])
        lines = ["draw r below 4", "if r < 1", "  empty 0", "if r < 2", "  put 0", "else", "  put 0"]
        self.assertEqual(listed(lines, 3), [((1, 4), ("new", 1)), ((1, 4), ("new", 1)), ((1, 2), ("new", 1))])

    def test_earlier_statements_decide_first(self):
        lines = ["draw r below 2", "draw s below 3", "if s < 1", "  put 0", "if r < 1", "  exchange 0 1"]
        self.assertEqual(listed(lines, 9), [
            ((1, 6), (1, "new")), ((1, 6), ("new", 1)), ((1, 3), (1, 0)), ((1, 3), (0, 1)),
        ])

    def test_what_was_tested_before_is_known(self):
        lines = ["draw r below 6", "if r < 4", "  put 0", "if r < 2", "  put 1", "if r is 3", "  empty 0"]
        self.assertEqual(listed(lines, 9), [
            ((1, 3), (None, "new")), ((1, 6), (None, 1)), ((1, 6), ("new", 1)), ((1, 3), (0, 1)),
        ])
        lines = ["draw r below 6", "if r is 3", "  put 0", "if r is 3", "  put 1"]
        self.assertEqual(listed(lines, 9), [((1, 6), (None, "new")), ((1, 2), (0, 1)), ((1, 3), (0, 1))])
        lines = ["draw r below 6", "if r < 3", "  if r is 5", "    put 0", "  else", "    put 1"]
        self.assertEqual(listed(lines, 9), [((1, 2), (0, "new")), ((1, 2), (0, 1))])

    def test_a_name_that_is_not_tested_takes_no_chance_away(self):
        self.assertEqual(listed(["draw r below 7", "put 0"], 9), [((1, 1), ("new", 1))])

    def test_draws_of_one_name_on_several_ways(self):
        lines = ["draw a below 2", "if a is 0", "  draw r below 3", "else", "  draw r below 5", "if r < 1", "  put 0"]
        self.assertEqual(listed(lines, 9), [
            ((1, 6), ("new", 1)), ((1, 3), (0, 1)), ((1, 10), ("new", 1)), ((2, 5), (0, 1)),
        ])

    def test_three_draws(self):
        lines = ["draw a below n", "draw b below n + 1", "draw c below 2*n", "if a < 1", "  if b < 1", "    if c < 1",
                 "      put 0"]
        self.assertEqual(listed(lines, 60)[0], ((1, 60 * 61 * 120), ("new", 1)))
        self.assertEqual([moves for chance, moves in listed(lines, 60)], [("new", 1), (0, 1), (0, 1), (0, 1)])

    def test_around_the_step_from_which_no_order_changes(self):
        lines = ["draw r below 3*n", "if r < n - 9", "  if r is 9", "    put 0", "  else", "    put 1", "else", "  empty 0"]
        self.assertEqual(listed(lines, 18), [((1, 6), (0, "new")), ((5, 6), (None, 1))])
        self.assertEqual(listed(lines, 19), [((1, 57), ("new", 1)), ((3, 19), (0, "new")), ((47, 57), (None, 1))])
        self.assertEqual(listed(lines, 20), [
            ((1, 60), ("new", 1)), ((3, 20), (0, "new")), ((1, 60), (0, "new")), ((49, 60), (None, 1)),
        ])
        self.assertEqual(listed(lines, 60), [
            ((1, 180), ("new", 1)), ((1, 20), (0, "new")), ((41, 180), (0, "new")), ((43, 60), (None, 1)),
        ])

    def test_from_19_on_the_chances_are_fractions_of_polynomials(self):
        lines = ["draw r below 3*n + 9", "if r < n + 9", "  if r < 2*n - 9", "    put 0", "  else", "    put 1", "else",
                 "  empty 0"]
        for step in (19, 20, 37, 60):
            share = Fraction(step + 9, 3 * step + 9)
            rest = 1 - share
            self.assertEqual(listed(lines, step), [
                ((share.numerator, share.denominator), ("new", 1)), ((rest.numerator, rest.denominator), (None, 1)),
            ])
        early = listed(lines, 17)
        self.assertEqual([moves for chance, moves in early], [("new", 1), (0, "new"), (None, 1)])
        self.assertEqual([moves for chance, moves in listed(lines, 18)], [("new", 1), (None, 1)])


class Reference(unittest.TestCase):
    def check(self, text, step):
        with self.subTest(text, step=step):
            found = list(ways(Sampler(text), step))
            self.assertEqual(found, ways_of(text, step))
            self.assertEqual(sum(Fraction(*chance) for chance, moves in found), 1)

    def test_many_programs(self):
        below = steps(11)
        for number in range(250):
            text = random_text(below)
            for step in (1, 2 + below(11), 18, 19, 20):
                self.check(text, step)

    def test_programs_with_three_draws(self):
        below = steps(12)
        for number in range(60):
            text = random_text(below, most_draws=3, most_lines=18)
            for step in (1, 2, 3):
                self.check(text, step)

    def test_late_steps(self):
        below = steps(13)
        for number in range(60):
            self.check(random_text(below, most_draws=1), 60)


class Arguments(unittest.TestCase):
    def first(self, *values, **named):
        return next(ways(*values, **named))

    def test_it_is_a_generator(self):
        found = ways(Sampler("places 1\nput 0"), 1)
        self.assertIsInstance(found, types.GeneratorType)
        self.assertEqual(next(found), ((1, 1), ("new",)))
        self.assertRaises(StopIteration, next, found)

    def test_kinds_of_values(self):
        for pair in ways(Sampler(PAIR), 7):
            self.assertIs(type(pair), tuple)
            chance, moves = pair
            self.assertIs(type(chance), tuple)
            self.assertEqual([type(number) for number in chance], [int, int])
            self.assertIs(type(moves), tuple)

    def test_by_name(self):
        sampler = Sampler(PAIR)
        self.assertEqual(list(ways(step=4, sampler=sampler)), list(ways(sampler, 4)))
        self.assertEqual(list(ways(sampler, step=4)), list(ways(sampler, 4)))

    def test_wrong_samplers(self):
        for wrong in (None, 1, True, "", PAIR, "places 1", (), (1,), ["places 1"], {}, ODD, Sampler, object()):
            self.assertIs(caught(self, NotASampler, self.first, wrong, 1).value, wrong)
            self.assertIs(caught(self, NotASampler, self.first, sampler=wrong, step=1).value, wrong)

    def test_wrong_steps(self):
        sampler = Sampler(PAIR)
        for wrong in NO_NUMBERS + (0, -1, -60, 61, 62, 10 ** 30, sampler):
            self.assertIs(caught(self, InvalidLength, self.first, sampler, wrong).value, wrong)
            self.assertIs(caught(self, InvalidLength, self.first, step=wrong, sampler=sampler).value, wrong)

    def test_the_sampler_is_looked_at_first(self):
        self.assertEqual(caught(self, NotASampler, self.first, "places 1", 0).value, "places 1")
        self.assertIs(caught(self, NotASampler, self.first, step=None, sampler=None).value, None)

    def test_edges_of_the_steps(self):
        sampler = Sampler("places 1\ndraw r below n\nif r is 0\n  put 0")
        self.assertEqual(list(ways(sampler, 1)), [((1, 1), ("new",))])
        for step in (2, 18, 19, 20, 59, 60):
            self.assertEqual(list(ways(sampler, step)), [((1, step), ("new",)), ((step - 1, step), (0,))])

    def test_the_sampler_does_not_change(self):
        sampler = Sampler(PAIR)
        before = (str(sampler), sampler.places, sampler.statements, sampler.names, list(ways(sampler, 9)))
        for step in range(1, 61):
            list(ways(sampler, step))
        after = (str(sampler), sampler.places, sampler.statements, sampler.names, list(ways(sampler, 9)))
        self.assertEqual(before, after)

    def test_generators_do_not_disturb_each_other(self):
        sampler = Sampler(PAIR)
        one, other = ways(sampler, 5), ways(sampler, 9)
        mixed = [next(one), next(other), next(one), next(other)]
        self.assertEqual(mixed[::2], list(ways(sampler, 5))[:2])
        self.assertEqual(mixed[1::2], list(ways(sampler, 9))[:2])


if __name__ == "__main__":
    unittest.main()
