"""The examples of the document, word for word."""

import unittest

from evenkeeps.errors import NotDrawn


class Examples(unittest.TestCase):
    def test_ratios(self):
        from evenkeeps.ratios import Ratio
        n = Ratio((0, 1))
        part = (n * 2 - 2).over(n * n - 1)
        self.assertEqual(
            [str(part), part(3), str(part.later(1)), str(1 - part), part.bottom, bool(part - part), Ratio.read("(1)/(2)")(5), str(-(n ** 2) * 3 + n + 4)],
            ['(2)/(n + 1)', (1, 2), '(2)/(n + 2)', '(n - 1)/(n + 1)', (1, 1), False, (1, 2), '-3*n^2 + n + 4'],
        )

    def test_samplers(self):
        from evenkeeps.samplers import Sampler, ways
        sampler = Sampler("places 1\ndraw r below n + 1\nif r < 2\n  put 0")
        self.assertEqual(
            [sampler.places, sampler.statements, sampler.names, list(ways(sampler, 3)), repr(sampler)],
            [1, 3, ('r',), [((1, 2), ('new',)), ((1, 2), (0,))], 'Sampler(1 places, 3 statements)'],
        )

    def test_a_sampler_that_is_none(self):
        from evenkeeps.samplers import Sampler
        with self.assertRaises(NotDrawn) as held:
            Sampler("places 1\nif r < 2\n  put 0\ndraw r below n")
        self.assertEqual(held.exception.line, 1)

    def test_chances(self):
        from evenkeeps.catalog import fading, pair, single
        from evenkeeps.chances import chance, chances, pair_chance, row_chances
        self.assertEqual(
            [chances(single(), 3), chance(pair(), 4, 1, place=0), pair_chance(pair(), 4, 1, 3), chances(fading(2), 3), row_chances(single(), 2)],
            [((1, 3), (1, 3), (1, 3)), (1, 2), (1, 6), ((1, 8), (1, 4), (1, 2)), (((1,), (1, 2)), ((2,), (1, 2)))],
        )

    def test_players(self):
        from evenkeeps.catalog import pair
        from evenkeeps.players import Player, play, runs
        player = Player(pair())
        player.feed()
        player.feed()
        player.feed(1)
        first = player.row
        player.back()
        player.feed(2)
        self.assertEqual(
            [first, player.row, player.length, play(pair(), ((), (), (0,), (3,))), list(runs(pair(), 3))[1]],
            [(1, 3), (1, 2), 3, (3, 2), (((), (), (1,)), (1, 3))],
        )

    def test_evenness(self):
        from evenkeeps.catalog import fading, last, pair, single
        from evenkeeps.evenness import first_uneven, first_uneven_pairs, is_even, is_even_in_pairs, is_even_in_places
        from evenkeeps.samplers import Sampler
        late = Sampler("places 1\nif n < 10\n  draw r below n\n  if r is 0\n    put 0\nelse\n  draw r below n + 1\n  if r is 0\n    put 0")
        self.assertEqual(
            [is_even(pair()), is_even_in_places(pair()), is_even_in_pairs(pair()), first_uneven(fading(2)), first_uneven(late), is_even(last(1)), first_uneven_pairs(last(2))],
            [True, False, True, (2, 1, 2), (10, 1, 10), False, (3, (1, 2), (2, 3))],
        )
        self.assertTrue(is_even(single()))

    def test_formulas(self):
        from evenkeeps.catalog import fading, pair, single
        from evenkeeps.formulas import first_off, follows
        from evenkeeps.ratios import Ratio
        n = Ratio((0, 1))
        share = Ratio((2,)).over(n)
        self.assertEqual(
            [follows(single(), 1, Ratio((1,)).over(n)), follows(pair(), 1, share), follows(pair(), 1, share, since=2), first_off(pair(), 1, share), first_off(fading(2), n, Ratio((1,)).over(n * 2))],
            [True, False, True, (1, 1), (3, 1)],
        )

    def test_costs(self):
        from evenkeeps.catalog import fading, last, pair, single
        from evenkeeps.costs import draws_at, first_more, never_more, writes_at, writes_later
        self.assertEqual(
            [draws_at(pair(), 2), draws_at(pair(), 3), str(writes_later(pair())), writes_at(pair(), 1), never_more(pair(), single()), first_more(single(), pair())],
            [(0, 1), (1, 1), '(2)/(n)', (1, 1), True, 1],
        )
        self.assertTrue(never_more(last(1), fading(2)))

    def test_joins(self):
        from evenkeeps.joins import Join, first_unfair, is_fair, join_rows, patterns, poured
        odd = Join("join 1\ndraw r below m + n\nif r < m\n  take 0 0")
        self.assertEqual(
            [is_fair(poured()), patterns(poured(), 2, 3), first_unfair(odd), join_rows(poured(), (2, 3), (2,), ("a",), ("b",))],
            [True, (((0,), (2, 5)), ((1,), (3, 5))), (1, 2, (0,)), ('b',)],
        )

    def test_gaps(self):
        from evenkeeps.gaps import even_fillings, fillings
        text = "places 1\ndraw r below ?\nif r is 0\n  put 0"
        self.assertEqual(
            [even_fillings(text)[:3], len(even_fillings(text)), len(fillings(text))],
            [('n', 'n + 1', 'n + 2'), 10, 42],
        )

    def test_certificates(self):
        from evenkeeps.catalog import fading, pair
        from evenkeeps.certificates import certify_even, certify_join
        from evenkeeps.checker import holds
        from evenkeeps.joins import poured
        claim, certificate = certify_even(pair())
        fair, nothing = certify_join(poured())
        self.assertEqual(
            [claim[0], holds(claim, certificate), holds(claim, ()), certify_even(fading(3))[0][2:], holds(fair, nothing), holds(("uneven", str(pair()), 5, 1, 2), ())],
            ['even', True, False, (2, 1, 2), True, False],
        )


if __name__ == "__main__":
    unittest.main()
