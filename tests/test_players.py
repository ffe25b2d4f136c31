import time
import types
import unittest

from evenkeeps.catalog import fading, last, pair, single
from evenkeeps.errors import InvalidDraws, InvalidLength, NotAPlayer, NotASampler, NothingBack
from evenkeeps.players import Player, Trial, play, runs, tried
from evenkeeps.samplers import Sampler
from tests.reference import random_text, runs_of
from tests.support import NO_NUMBERS, ODD, caught, steps, text_of, wrong_samplers
from tests.texts import LATE_20, PAIR, SHORT

TWO_DRAWS = text_of(
    "draw r below n", "if r is 0", "  put 0", "else", "  draw s below 2*n + 1", "  if s < 2", "    put 1", places=2,
)
THREE_DRAWS = text_of("draw a below 3*n + 9", "draw b below 3*n + 9", "draw c below 3*n + 9", "if c is 0", "  put 0")
NO_WHOLE = (None, True, False, "0", "", b"0", (), (0,), [0], {}, ODD, object(), len, int)


def state(player):
    return (player.sampler, player.length, player.row)


def history(player):
    """All that a player can take back; the player itself stays as it is."""
    other = player.twin()
    out = [state(other)]
    while other.length:
        other.back()
        out.append(state(other))
    return out


class Feeding(unittest.TestCase):
    def test_at_the_beginning(self):
        for sampler in (single(), pair(), last(3)):
            for player in (Player(sampler), Player(sampler=sampler)):
                self.assertIs(player.sampler, sampler)
                self.assertEqual(player.length, 0)
                self.assertEqual(player.row, (None,) * sampler.places)
                self.assertIs(type(player.length), int)
                self.assertIs(type(player.row), tuple)

    def test_item_by_item(self):
        player = Player(pair())
        rows = []
        for draws in ((), (), (1,), (3,), (0,), (5,)):
            self.assertIsNone(player.feed(*draws))
            rows.append(player.row)
        self.assertEqual(rows, [(1, None), (1, 2), (1, 3), (1, 3), (5, 3), (5, 3)])
        self.assertEqual(player.length, 6)

    def test_the_order_of_the_draws(self):
        player = Player(Sampler(TWO_DRAWS))
        player.feed(0)
        player.feed(1, 4)
        self.assertEqual(player.row, (1, None))
        player.feed(2, 1)
        self.assertEqual(player.row, (1, 3))
        player.feed(0)
        self.assertEqual(player.row, (4, 3))

    def test_more_than_sixty_items(self):
        player = Player(last(2))
        for item in range(200):
            player.feed()
        self.assertEqual((player.length, player.row), (200, (200, 199)))
        for item in range(200):
            player.back()
        self.assertEqual((player.length, player.row), (0, (None, None)))
        player = Player(single())
        player.feed(0)
        for item in range(2, 100):
            player.feed(item - 1)
        self.assertEqual(player.row, (1,))
        player.feed(0)
        self.assertEqual(player.row, (100,))

    def test_it_holds_what_runs_and_walks_hold(self):
        for text in SHORT:
            for draws, row in runs_of(text, 3)[::7]:
                player = Player(Sampler(text))
                for numbers in draws:
                    player.feed(*numbers)
                self.assertEqual((player.length, player.row), (3, row))
                self.assertEqual(play(Sampler(text), draws), row)


class WrongDraws(unittest.TestCase):
    def refuse(self, player, index, *draws):
        before = (state(player), history(player))
        self.assertEqual(caught(self, InvalidDraws, player.feed, *draws).index, index, draws)
        self.assertEqual((state(player), history(player)), before)

    def fed(self, text, *rows):
        player = Player(Sampler(text))
        for draws in rows:
            player.feed(*draws)
        return player

    def test_too_many(self):
        player = self.fed(PAIR)
        self.refuse(player, 0, 0)
        self.refuse(player, 0, 0, 0)
        self.refuse(player, 0, ODD)
        player = self.fed(PAIR, (), ())
        self.refuse(player, 1, 0, 0)
        self.refuse(player, 1, 2, None, 0)
        self.refuse(player, 1, 1, 99)
        player = self.fed(TWO_DRAWS, (0,))
        self.refuse(player, 1, 0, 0)
        self.refuse(player, 2, 1, 0, 0)
        self.refuse(player, 2, 1, 4, True, True)

    def test_too_few(self):
        self.refuse(self.fed(PAIR, (), ()), 0)
        self.refuse(self.fed(TWO_DRAWS, (0,)), 0)
        self.refuse(self.fed(TWO_DRAWS, (0,)), 1, 1)
        player = self.fed(THREE_DRAWS)
        self.refuse(player, 0)
        self.refuse(player, 1, 11)
        self.refuse(player, 2, 11, 11)
        player.feed(11, 11, 11)

    def test_at_the_bound_of_the_form(self):
        player = self.fed(PAIR, (), ())
        self.refuse(player, 0, 3)
        self.refuse(player, 0, -1)
        self.refuse(player, 0, 4)
        self.refuse(player, 0, 10 ** 39)
        player.feed(2)
        self.refuse(player, 0, 4)
        player.feed(3)
        player = self.fed(TWO_DRAWS, (0,))
        self.refuse(player, 0, 2, 0)
        self.refuse(player, 1, 1, 5)
        self.refuse(player, 1, 1, -1)
        player.feed(1, 4)
        player = self.fed(THREE_DRAWS)
        for index in range(3):
            draws = [0, 0, 0]
            draws[index] = 12
            self.refuse(player, index, *draws)
            draws[index] = -1
            self.refuse(player, index, *draws)
        self.refuse(player, 0, 12, 12, 12, 12)
        self.refuse(player, 1, 0, 12)
        always = str(fading(1))
        self.refuse(self.fed(always), 0, 1)
        self.refuse(self.fed(always, (0,), (0,)), 0, 1)

    def test_not_whole(self):
        for wrong in NO_WHOLE:
            self.refuse(self.fed(PAIR, (), ()), 0, wrong)
            self.refuse(self.fed(PAIR, (), ()), 0, wrong, 1)
            self.refuse(self.fed(TWO_DRAWS, (0,)), 1, 1, wrong)
            self.refuse(self.fed(THREE_DRAWS), 2, 0, 0, wrong)

    def test_truths_are_no_numbers(self):
        player = self.fed(PAIR, (), ())
        self.refuse(player, 0, True)
        self.refuse(player, 0, False)
        player.feed(1)
        self.assertEqual(player.row, (1, 3))

    def test_the_first_wrong_one_is_told(self):
        player = self.fed(THREE_DRAWS)
        self.refuse(player, 0, None)
        self.refuse(player, 0, -1, None, 99, 99)
        self.refuse(player, 1, 0, "0", -1)

    def test_the_form_follows_n(self):
        player = self.fed(text_of("if n is 2", "  draw r below 3", "else", "  draw r below 2*n - 1", places=1))
        for bound in (1, 3, 5, 7):
            self.refuse(player, 0, bound)
            player.feed(bound - 1)

    def test_samplers(self):
        for wrong in wrong_samplers(pair()):
            self.assertIs(caught(self, NotASampler, Player, wrong).value, wrong)
            self.assertIs(caught(self, NotASampler, Player, sampler=wrong).value, wrong)
        player = Player(pair())
        self.assertIs(caught(self, NotASampler, Player, player).value, player)


class Back(unittest.TestCase):
    def test_a_step_restores_all(self):
        below = steps(41)
        for text in SHORT:
            player = Player(Sampler(text))
            seen = [state(player)]
            chosen = runs_of(text, 3)
            for draws in chosen[below(len(chosen))][0]:
                player.feed(*draws)
                seen.append(state(player))
            for expected in seen[::-1]:
                self.assertEqual(state(player), expected)
                if player.length:
                    self.assertIsNone(player.back())
            caught(self, NothingBack, player.back)

    def test_beyond_the_beginning(self):
        player = Player(single())
        caught(self, NothingBack, player.back)
        caught(self, NothingBack, player.back)
        self.assertEqual(state(player), (single(), 0, (None,)))
        player.feed(0)
        player.back()
        caught(self, NothingBack, player.back)
        player.feed(0)
        self.assertEqual((player.length, player.row), (1, (1,)))

    def test_going_on_in_another_way(self):
        player = Player(pair())
        for draws in ((), (), (0,)):
            player.feed(*draws)
        self.assertEqual(player.row, (3, 2))
        player.back()
        self.assertEqual(player.row, (1, 2))
        player.feed(1)
        self.assertEqual(player.row, (1, 3))
        player.back()
        player.back()
        player.back()
        self.assertEqual((player.length, player.row), (0, (None, None)))

    def test_a_refused_feed_is_nothing_to_take_back(self):
        player = Player(pair())
        player.feed()
        caught(self, InvalidDraws, player.feed, 0)
        player.back()
        caught(self, NothingBack, player.back)


class Twins(unittest.TestCase):
    def test_at_the_same_point(self):
        player = Player(pair())
        for draws in ((), (), (0,), (1,)):
            player.feed(*draws)
        other = player.twin()
        self.assertIs(type(other), Player)
        self.assertIs(other.sampler, player.sampler)
        self.assertEqual(state(other), state(player))
        self.assertEqual(history(other), history(player))

    def test_each_goes_on_by_itself(self):
        player = Player(pair())
        player.feed()
        player.feed()
        other = player.twin()
        other.feed(0)
        self.assertEqual((player.length, player.row), (2, (1, 2)))
        player.feed(1)
        self.assertEqual(other.row, (3, 2))
        self.assertEqual(player.row, (1, 3))
        for count in range(3):
            other.back()
        caught(self, NothingBack, other.back)
        self.assertEqual((player.length, player.row), (3, (1, 3)))
        player.back()
        self.assertEqual((player.length, player.row), (2, (1, 2)))
        self.assertEqual((other.length, other.row), (0, (None, None)))

    def test_a_twin_of_a_twin_and_of_a_beginning(self):
        player = Player(last(2))
        other = player.twin().twin()
        other.feed()
        self.assertEqual(player.length, 0)
        caught(self, NothingBack, player.twin().back)
        self.assertEqual(other.twin().row, (1, None))

    def test_equal_only_to_itself(self):
        player = Player(pair())
        self.assertTrue(player == player)
        self.assertFalse(player != player)
        for other in (player.twin(), Player(pair()), pair(), None, 0, (0, (None, None)), "player"):
            self.assertFalse(player == other)
            self.assertFalse(other == player)
            self.assertTrue(player != other)
            self.assertTrue(other != player)


class Stop(Exception):
    pass


class Trials(unittest.TestCase):
    def player(self):
        player = Player(pair())
        for draws in ((), (), (0,)):
            player.feed(*draws)
        return player

    def check(self, deed):
        player = self.player()
        before = (state(player), history(player))
        out = deed(player)
        self.assertEqual((state(player), history(player)), before)
        player.feed(1)
        self.assertEqual((player.length, player.row), (4, (3, 4)))
        return out

    def test_blocks_that_end_in_order(self):
        def forward(player):
            with Trial(player) as same:
                self.assertIs(same, player)
                same.feed(3)
                same.feed(0)
                self.assertEqual((player.length, player.row), (5, (5, 2)))

        def backward(player):
            with Trial(player=player):
                player.back()
                player.back()
                self.assertEqual(player.row, (1, None))

        def to_the_beginning(player):
            with Trial(player):
                for count in range(3):
                    player.back()
                caught(self, NothingBack, player.back)
                player.feed()

        def other_way(player):
            with Trial(player):
                player.back()
                player.feed(1)
                self.assertEqual((player.length, player.row), (3, (1, 3)))

        def nothing(player):
            with Trial(player):
                pass

        for deed in (forward, backward, to_the_beginning, other_way, nothing):
            self.check(deed)

    def test_blocks_that_end_by_an_error(self):
        def own(player):
            with self.assertRaises(Stop):
                with Trial(player):
                    player.feed(1)
                    raise Stop

        def of_the_player(player):
            with self.assertRaises(InvalidDraws) as held:
                with Trial(player):
                    player.feed(1)
                    player.feed(0, 0)
            self.assertEqual(held.exception.index, 1)

        def behind_the_beginning(player):
            with self.assertRaises(NothingBack):
                with Trial(player):
                    while True:
                        player.back()

        def of_python(player):
            with self.assertRaises(KeyboardInterrupt):
                with Trial(player):
                    player.back()
                    raise KeyboardInterrupt

        for deed in (own, of_the_player, behind_the_beginning, of_python):
            self.check(deed)

    def test_blocks_that_are_left(self):
        def returned(player):
            with Trial(player):
                player.feed(0)
                return player.row

        def broken(player):
            for count in range(3):
                with Trial(player):
                    player.back()
                    if count == 1:
                        break
                    continue

        self.assertEqual(self.check(returned), (4, 2))
        self.check(broken)

    def test_one_in_another(self):
        def deed(player):
            with Trial(player):
                player.feed(0)
                with Trial(player):
                    player.back()
                    player.back()
                self.assertEqual((player.length, player.row), (4, (4, 2)))
                player.feed(1)

        self.check(deed)

    def test_the_beginning_is_that_of_the_block(self):
        player = self.player()
        trial = Trial(player)
        player.feed(1)
        before = (state(player), history(player))
        with trial:
            player.feed(0)
        self.assertEqual((state(player), history(player)), before)

    def test_twins_stay(self):
        player = self.player()
        with Trial(player):
            player.feed(1)
            other = player.twin()
        self.assertEqual((player.length, other.length), (3, 4))
        with Trial(player):
            other.back()
        self.assertEqual((player.length, other.length), (3, 3))

    def test_wrong_players(self):
        for wrong in (None, 0, True, "", (), [], ODD, pair(), Player, Trial(Player(pair())), object()):
            self.assertIs(caught(self, NotAPlayer, Trial, wrong).value, wrong)
            self.assertIs(caught(self, NotAPlayer, Trial, player=wrong).value, wrong)
            self.assertIs(caught(self, NotAPlayer, tried, wrong, self.fail).value, wrong)
            self.assertIs(caught(self, NotAPlayer, tried, player=wrong, deed=self.fail).value, wrong)

    def test_tried(self):
        def deed(player):
            player.feed(0)
            player.feed(1)
            return [player, player.row]

        def wrong(player):
            player.back()
            raise Stop("no")

        def run(player):
            same, row = tried(player, deed)
            self.assertIs(same, player)
            self.assertEqual(row, (4, 5))
            self.assertEqual(tried(deed=deed, player=player)[1], (4, 5))
            self.assertIsNone(tried(player, lambda one: None))
            self.assertEqual(tried(player, lambda one: tried(one, deed)[1]), (4, 5))
            with self.assertRaises(Stop) as held:
                tried(player, wrong)
            self.assertEqual(held.exception.args, ("no",))

        self.check(run)


class Runs(unittest.TestCase):
    def test_all_of_them_in_order(self):
        for text in SHORT:
            for length in (1, 2, 3):
                expected = runs_of(text, length)
                self.assertEqual(list(runs(Sampler(text), length)), expected)
                self.assertEqual(expected, sorted(expected, key=lambda run: run[0]))

    def test_lengths_up_to_five(self):
        for text in (PAIR, str(single()), str(fading(2)), str(last(3))):
            for length in (1, 4, 5):
                self.assertEqual(list(runs(Sampler(text), length)), runs_of(text, length))
        self.assertEqual(len(list(runs(single(), 5))), 120)

    def test_programs_by_chance(self):
        below = steps(42)
        for number in range(60):
            text = random_text(below, most_draws=2)
            self.assertEqual(list(runs(Sampler(text), 1)), runs_of(text, 1))

    def test_kinds(self):
        found = runs(pair(), 3)
        self.assertIsInstance(found, types.GeneratorType)
        for run in found:
            self.assertIs(type(run), tuple)
            draws, row = run
            self.assertIs(type(draws), tuple)
            self.assertEqual(len(draws), 3)
            self.assertTrue(all(type(numbers) is tuple for numbers in draws))
            self.assertIs(type(row), tuple)

    def test_the_first_ones_soon(self):
        start = time.monotonic()
        found = runs(Sampler(THREE_DRAWS), 5)
        first = [next(found) for count in range(2000)]
        self.assertLess(time.monotonic() - start, 20)
        nought = ((0, 0, 0),) * 4
        self.assertEqual(first[0], (nought + ((0, 0, 0),), (5, None, None)))
        self.assertEqual(first[1], (nought + ((0, 0, 1),), (4, None, None)))
        self.assertEqual(first[24], (nought + ((0, 1, 0),), (5, None, None)))
        self.assertEqual(first[24 * 24], (nought + ((1, 0, 0),), (5, None, None)))

    def test_without_draws(self):
        self.assertEqual(list(runs(last(2), 5)), [(((),) * 5, (5, 4))])
        self.assertEqual(list(runs(Sampler("places 1"), 1)), [(((),), (None,))])

    def test_two_at_once(self):
        sampler = Sampler(TWO_DRAWS)
        one, other = runs(sampler, 2), runs(sampler, 2)
        whole = list(runs(sampler, 2))
        mixed = [(next(one), next(other)) for count in whole]
        self.assertEqual(mixed, [(run, run) for run in whole])

    def test_by_name(self):
        self.assertEqual(list(runs(length=2, sampler=pair())), list(runs(pair(), 2)))

    def test_wrong_arguments(self):
        def first(*values, **named):
            return next(runs(*values, **named))

        for wrong in wrong_samplers(pair()):
            self.assertIs(caught(self, NotASampler, first, wrong, 2).value, wrong)
            self.assertIs(caught(self, NotASampler, first, sampler=wrong, length=0).value, wrong)
        for wrong in (*NO_NUMBERS, 0, -1, 6, 7, 60, 61, 10 ** 39, pair()):
            self.assertIs(caught(self, InvalidLength, first, pair(), wrong).value, wrong)
            self.assertIs(caught(self, InvalidLength, first, length=wrong, sampler=pair()).value, wrong)


class Plays(unittest.TestCase):
    def test_no_items_at_all(self):
        for sampler in (single(), pair(), last(3)):
            self.assertEqual(play(sampler, ()), (None,) * sampler.places)

    def test_rows(self):
        self.assertEqual(play(pair(), ((), (), (0,), (3,))), (3, 2))
        self.assertEqual(play(rows=((), ()), sampler=pair()), (1, 2))
        self.assertEqual(play(Sampler(TWO_DRAWS), ((0,), (1, 1), (0,))), (3, 2))
        self.assertIs(type(play(pair(), ((),))), tuple)

    def test_what_runs_gives(self):
        for text in SHORT:
            for draws, row in list(runs(Sampler(text), 3))[::5]:
                self.assertEqual(play(Sampler(text), draws), row)

    def test_up_to_sixty_items(self):
        self.assertEqual(play(last(3), ((),) * 60), (60, 59, 58))
        self.assertEqual(play(single(), ((0,),) * 60), (60,))
        self.assertEqual(play(single(), ((0,),) + tuple((item,) for item in range(1, 60))), (1,))
        self.assertIsNone(caught(self, InvalidDraws, play, last(3), ((),) * 61).index)
        self.assertIsNone(caught(self, InvalidDraws, play, last(3), ((),) * 62).index)
        self.assertIsNone(caught(self, InvalidDraws, play, single(), ((9,),) * 61).index)

    def test_late_steps(self):
        sampler = Sampler(LATE_20)
        start = ((0,),) + tuple((1, 3 * n - 1) for n in range(2, 20))
        self.assertEqual(play(sampler, start), (1,))
        self.assertEqual(play(sampler, start + ((1, 10),)), (None,))
        self.assertEqual(play(sampler, start + ((1, 11),)), (1,))
        self.assertEqual(play(sampler, start + ((1, 9, 0),)), (1,))
        self.assertEqual(play(sampler, start + ((0,),)), (20,))
        self.assertEqual(caught(self, InvalidDraws, play, sampler, start + ((1, 9),)).index, 19)

    def test_no_tuples(self):
        for wrong in (None, 0, True, "", "ab", [], [()], {}, ODD, pair(), object()):
            self.assertIsNone(caught(self, InvalidDraws, play, pair(), wrong).index)
            self.assertIsNone(caught(self, InvalidDraws, play, sampler=pair(), rows=wrong).index)

    def test_draws_that_do_not_suit(self):
        for wrong in (None, 0, True, "", [], [0], {}, ODD, (0,), (0, 0), (None,)):
            self.assertEqual(caught(self, InvalidDraws, play, pair(), (wrong,)).index, 0)
            self.assertEqual(caught(self, InvalidDraws, play, pair(), ((), wrong, None)).index, 1)
        for wrong in (None, 0, [0], (), (3,), (-1,), (True,), (0, 0), ("0",), (ODD,), ((0,),)):
            self.assertEqual(caught(self, InvalidDraws, play, pair(), ((), (), wrong)).index, 2)
            self.assertEqual(caught(self, InvalidDraws, play, pair(), ((), (), wrong, (9,))).index, 2)
        self.assertEqual(caught(self, InvalidDraws, play, single(), ((0,),) * 59 + ((60,),)).index, 59)

    def test_samplers_come_first(self):
        for wrong in wrong_samplers(pair()):
            self.assertIs(caught(self, NotASampler, play, wrong, ()).value, wrong)
            self.assertIs(caught(self, NotASampler, play, rows=None, sampler=wrong).value, wrong)

    def test_the_arguments_stay(self):
        rows = ((), (), (1,))
        sampler = pair()
        play(sampler, rows)
        self.assertEqual(rows, ((), (), (1,)))
        self.assertEqual(str(sampler), PAIR)
        wrong = [(), [0]]
        caught(self, InvalidDraws, play, sampler, wrong)
        caught(self, InvalidDraws, play, sampler, (wrong,))
        self.assertEqual(wrong, [(), [0]])


if __name__ == "__main__":
    unittest.main()
