import unittest

from evenkeeps.catalog import fading, last, pair, single
from evenkeeps.errors import Held, InvalidEdit, InvalidText, Missing, NotASampler, NothingBack, Refused
from evenkeeps.ratios import Ratio
from evenkeeps.samplers import Sampler
from evenkeeps.shelves import Shelf
from tests.support import ODD, caught, wrong_samplers
from tests.texts import SHUFFLED, SINGLE, TRIPLE

N = Ratio((0, 1))
SHARE = Ratio((1,)).over(N)
ONE = Ratio((1,))
SAME = Sampler(SINGLE.replace("is 0", "< 1"))
DEMANDS = (
    "even", "even in places", "even in pairs", ("alike", single()), ("never more", single()), ("follows", ONE, SHARE),
)
NO_DEMANDS = (
    None, 0, 1, True, "", "Even", "even ", "odd", "alike", "never more", "follows", b"even", (), ("even",), ["even"], ODD, object(),
    ("alike",), ("alike", str(single())), ("alike", single(), single()), ("alike", None), ("alike", ODD), ["alike", single()],
    ("Alike", single()), ("never more",), ("never more", 1), ("never more", ONE), ("follows", ONE), ("follows", ONE, SHARE, 1),
    ("follows", 1, SHARE), ("follows", ONE, 1), ("follows", "1", SHARE), ("follows", SHARE, None), ("even in", "places"),
    (ODD, single()), (None, single()), (ODD,), ("follows", ONE, ODD), single(), Sampler, len, (("alike", single()),), {"even": 1},
    ("even in pairs", single()), ("never less", single()),
)
NO_NAMES = (
    None, 0, True, "", "A", "a1", "a b", "abcdefghi", " a", "a ", "a_b", b"a", ("a",), ["a"], {"a"}, ODD, object(), str, "a\n", "\xe9",
)


def shelf_of(**samplers):
    shelf = Shelf()
    for name, sampler in samplers.items():
        shelf[name] = sampler
    return shelf


def view(shelf):
    """All that can be seen of a shelf."""
    return (
        shelf.names, len(shelf), repr(shelf), tuple((name, shelf[name], shelf.wishes(name), name in shelf) for name in shelf.names))


def put(shelf, name, sampler):
    shelf[name] = sampler


class Keeping(unittest.TestCase):
    def test_an_empty_shelf(self):
        shelf = Shelf()
        self.assertEqual((shelf.names, len(shelf), repr(shelf)), ((), 0, "Shelf(0 samplers)"))
        self.assertNotIn("a", shelf)
        caught(self, NothingBack, shelf.back)

    def test_putting(self):
        one, two = pair(), single()
        shelf = shelf_of(b=one, a=two)
        self.assertIs(shelf["b"], one)
        self.assertIs(shelf["a"], two)
        self.assertEqual((shelf.names, len(shelf), repr(shelf)), (("a", "b"), 2, "Shelf(2 samplers)"))
        shelf["b"] = two
        self.assertIs(shelf["b"], two)
        self.assertEqual((shelf.names, len(shelf)), (("a", "b"), 2))
        self.assertEqual(repr(shelf_of(a=one)), "Shelf(1 samplers)")

    def test_names(self):
        shelf = Shelf()
        for name in ("a", "z", "abcdefgh", "zzzzzzzz", "if", "n", "put", "places", "draw"):
            shelf[name] = pair()
            self.assertIn(name, shelf)
        self.assertEqual(shelf.names, tuple(sorted(("a", "z", "abcdefgh", "zzzzzzzz", "if", "n", "put", "places", "draw"))))

    def test_wrong_names_and_samplers(self):
        shelf = shelf_of(a=pair())
        before = view(shelf)
        for name in NO_NAMES:
            self.assertIs(caught(self, InvalidText, put, shelf, name, None).value, name)
            self.assertIs(caught(self, InvalidText, put, shelf, name, pair()).value, name)
        for value in wrong_samplers(pair()):
            self.assertIs(caught(self, NotASampler, put, shelf, "b", value).value, value)
            self.assertIs(caught(self, NotASampler, put, shelf, "a", value).value, value)
        self.assertEqual(view(shelf), before)
        shelf.back()
        caught(self, NothingBack, shelf.back)

    def test_missing(self):
        shelf = shelf_of(a=pair())
        shelf.wish("a", "even")
        before = view(shelf)
        for name in (*NO_NAMES, "b", "aa"):
            self.assertNotIn(name, shelf)
            self.assertIs(name in shelf, False)
            self.assertIs(caught(self, Missing, lambda: shelf[name]).name, name)
            self.assertIs(caught(self, Missing, shelf.wish, name, None).name, name)
            self.assertIs(caught(self, Missing, shelf.wish, name, "even").name, name)
            self.assertIs(caught(self, Missing, shelf.free, name, "even").name, name)
            self.assertIs(caught(self, Missing, shelf.free, demand=ODD, name=name).name, name)
            self.assertIs(caught(self, Missing, shelf.drop, name).name, name)
            self.assertIs(caught(self, Missing, shelf.wishes, name).name, name)
            self.assertIs(caught(self, Missing, shelf.wishes, name=name).name, name)
        self.assertIs("a" in shelf, True)
        self.assertEqual(view(shelf), before)

    def test_equality(self):
        shelf = Shelf()
        self.assertEqual(shelf, shelf)
        self.assertNotEqual(shelf, Shelf())
        self.assertFalse(shelf == 0)
        self.assertTrue(shelf != Shelf())

    def test_methods_return_nothing(self):
        shelf = shelf_of(a=pair())
        self.assertIsNone(shelf.wish("a", "even"))
        self.assertIsNone(shelf.free("a", "even"))
        self.assertIsNone(shelf.drop("a"))
        self.assertIsNone(shelf.back())


class Demands(unittest.TestCase):
    def test_each_kind_is_met(self):
        for demand in DEMANDS:
            shelf = shelf_of(a=SAME)
            if demand == "even in places":
                shelf["a"] = Sampler(SHUFFLED)
            shelf.wish("a", demand)
            self.assertEqual(len(shelf.wishes("a")), 1)
            self.assertIs(shelf.wishes("a")[0], demand)
            shelf.wish(demand=demand, name="a")
            self.assertEqual(shelf.wishes(name="a"), (demand, demand))

    def test_each_kind_is_refused(self):
        for demand, sampler in (
            ("even", fading(2)), ("even in places", pair()), ("even in pairs", last(2)), (("alike", single()), fading(2)),
            (("alike", single()), pair()), (("alike", pair()), single()), (("never more", last(2)), single()),
            (("follows", ONE, SHARE), pair()), (("follows", ONE, SHARE * 2), pair()), (("follows", SHARE, ONE), single()),
        ):
            shelf = shelf_of(a=sampler)
            before = view(shelf)
            error = caught(self, Refused, shelf.wish, "a", demand)
            self.assertEqual(error.name, "a")
            self.assertIs(error.demand, demand)
            self.assertEqual(view(shelf), before)
            shelf.back()
            caught(self, NothingBack, shelf.back)

    def test_unlike_places(self):
        shelf = shelf_of(a=last(2))
        shelf.wish("a", ("never more", single()))
        self.assertEqual(shelf.wishes("a"), (("never more", single()),))

    def test_no_demands(self):
        shelf = shelf_of(a=pair(), b=fading(2))
        before = view(shelf)
        for value in NO_DEMANDS:
            for name in ("a", "b"):
                self.assertEqual(vars(caught(self, InvalidEdit, shelf.wish, name, value)), {"index": None})
                error = caught(self, Refused, shelf.free, name, value)
                self.assertEqual(error.name, name)
                self.assertIs(error.demand, value)
        self.assertEqual(view(shelf), before)

    def test_a_sampler_in_the_place_of_another_one(self):
        shelf = shelf_of(a=single())
        for demand in ("even", ("alike", single()), ("follows", ONE, SHARE)):
            shelf.wish("a", demand)
        before = view(shelf)
        # The first demand in the order in which they were made.
        for sampler, demand in ((fading(2), "even"), (pair(), ("alike", single())), (last(1), "even"), (Sampler(TRIPLE), ("alike", single()))):
            error = caught(self, Refused, put, shelf, "a", sampler)
            self.assertEqual((error.name, error.demand), ("a", demand))
            self.assertIs(error.demand, shelf.wishes("a")[0 if demand == "even" else 1])
            self.assertEqual(view(shelf), before)
        shelf["a"] = SAME
        self.assertIs(shelf["a"], SAME)
        self.assertEqual(shelf.wishes("a"), ("even", ("alike", single()), ("follows", ONE, SHARE)))
        shelf.free("a", "even")
        shelf.free("a", ("alike", Sampler(SINGLE)))
        error = caught(self, Refused, put, shelf, "a", fading(2))
        self.assertEqual(error.demand, ("follows", ONE, SHARE))
        shelf.free("a", ("follows", Ratio((3,), (3,)), Ratio((1,)).over(N)))
        shelf["a"] = fading(2)
        # The demands of another name do not matter.
        shelf["b"] = single()
        shelf.wish("b", "even")
        shelf["a"] = last(3)

    def test_the_first_equal_demand_is_taken_away(self):
        shelf = shelf_of(a=single())
        one, two = ("alike", single()), ("alike", Sampler(SINGLE))
        shelf.wish("a", one)
        shelf.wish("a", "even")
        shelf.wish("a", two)
        shelf.wish("a", "even")
        self.assertEqual(len(shelf.wishes("a")), 4)
        shelf.free("a", ("alike", Sampler(SINGLE)))
        self.assertEqual(shelf.wishes("a"), ("even", two, "even"))
        self.assertIs(shelf.wishes("a")[1], two)
        shelf.free(demand="even", name="a")
        self.assertEqual(shelf.wishes("a"), (two, "even"))
        shelf.free("a", two)
        shelf.free("a", "even")
        self.assertEqual(shelf.wishes("a"), ())
        self.assertEqual(caught(self, Refused, shelf.free, "a", "even").demand, "even")

    def test_demands_that_are_not_there(self):
        shelf = shelf_of(a=single(), b=single())
        for demand in DEMANDS:
            if demand != "even in places":
                shelf.wish("b", demand)
        shelf.wish("a", "even")
        for demand in (
            "even in pairs", ("alike", single()), ("alike", SAME), ("never more", single()), ("follows", ONE, SHARE),
        ):
            error = caught(self, Refused, shelf.free, "a", demand)
            self.assertEqual(error.name, "a")
            self.assertIs(error.demand, demand)
        for demand in (("alike", SAME), ("never more", SAME), ("follows", SHARE, ONE)):
            caught(self, Refused, shelf.free, "b", demand)
        self.assertEqual(shelf.wishes("a"), ("even",))

    def test_drop(self):
        shelf = shelf_of(a=single(), b=pair())
        shelf.wish("a", "even")
        shelf.drop("a")
        self.assertEqual((shelf.names, len(shelf), "a" in shelf), (("b",), 1, False))
        shelf["a"] = fading(2)
        self.assertEqual(shelf.wishes("a"), ())
        shelf.drop(name="a")
        shelf.drop("b")
        self.assertEqual(shelf.names, ())


class Back(unittest.TestCase):
    def test_all_kinds_of_changes(self):
        shelf = Shelf()
        seen = [view(shelf)]
        for deed in (
            lambda: put(shelf, "a", single()), lambda: put(shelf, "b", pair()), lambda: shelf.wish("a", "even"),
            lambda: put(shelf, "a", SAME), lambda: shelf.wish("a", "even"), lambda: shelf.free("a", "even"),
            lambda: shelf.drop("b"), lambda: put(shelf, "a", SAME), lambda: shelf.all_or_none(lambda same: None),
            lambda: shelf.all_or_none(lambda same: (same.drop("a"), put(same, "c", last(1)))), lambda: put(shelf, "a", last(1)),
        ):
            deed()
            seen.append(view(shelf))
        # What is refused is no change.
        caught(self, Missing, shelf.drop, "b")
        caught(self, InvalidEdit, shelf.wish, "a", None)
        caught(self, Refused, shelf.wish, "a", "even")
        caught(self, InvalidText, put, shelf, "A", pair())
        for state in seen[-2::-1]:
            shelf.back()
            self.assertEqual(view(shelf), state)
        caught(self, NothingBack, shelf.back)
        self.assertEqual(view(shelf), seen[0])

    def test_going_on_behind(self):
        shelf = shelf_of(a=single())
        shelf.wish("a", "even")
        shelf.back()
        shelf["a"] = fading(2)
        shelf.back()
        self.assertEqual(shelf["a"], single())
        shelf.back()
        caught(self, NothingBack, shelf.back)

    def test_two_shelves_have_nothing_in_common(self):
        one, other = shelf_of(a=single()), Shelf()
        self.assertEqual(len(other), 0)
        caught(self, NothingBack, other.back)
        other["b"] = pair()
        one.back()
        self.assertEqual((one.names, other.names), ((), ("b",)))


class Whole(unittest.TestCase):
    def test_what_it_returns(self):
        shelf = shelf_of(a=single())
        thing = object()
        self.assertIs(shelf.all_or_none(lambda same: thing), thing)
        self.assertIs(shelf.all_or_none(deed=lambda same: same), shelf)

    def test_one_change(self):
        shelf = shelf_of(a=single())
        before = view(shelf)

        def deed(same):
            same.wish("a", "even")
            same["b"] = pair()
            same.drop("b")
            same["c"] = last(1)
            self.assertEqual(same.names, ("a", "c"))

        shelf.all_or_none(deed)
        self.assertEqual(shelf.names, ("a", "c"))
        self.assertEqual(shelf.wishes("a"), ("even",))
        shelf.back()
        self.assertEqual(view(shelf), before)
        shelf.back()
        caught(self, NothingBack, shelf.back)

    def test_errors_take_all_back(self):
        for kind in (ValueError, KeyError, KeyboardInterrupt, StopIteration, ZeroDivisionError, Missing):
            shelf = shelf_of(a=single(), b=pair())
            shelf.wish("a", "even")
            before = view(shelf)
            error = Missing("x") if kind is Missing else kind()

            def deed(same):
                same.drop("a")
                same["c"] = last(1)
                same["b"] = last(2)
                raise error

            with self.assertRaises(kind) as held:
                shelf.all_or_none(deed)
            self.assertIs(held.exception, error)
            self.assertEqual(view(shelf), before)
            # It was no change: the last one is the wish.
            shelf.back()
            self.assertEqual(shelf.wishes("a"), ())
            self.assertEqual(len(shelf), 2)

    def test_an_error_of_the_shelf_itself(self):
        shelf = shelf_of(a=single())

        def deed(same):
            same["b"] = pair()
            same.wish("a", ("alike", pair()))

        self.assertEqual(caught(self, Refused, shelf.all_or_none, deed).demand, ("alike", pair()))
        self.assertEqual(shelf.names, ("a",))

    def test_errors_that_are_caught_inside(self):
        shelf = shelf_of(a=single())

        def deed(same):
            same["b"] = pair()
            caught(self, Missing, same.drop, "x")
            caught(self, Refused, same.wish, "a", ("alike", pair()))
            caught(self, InvalidEdit, same.wish, "a", None)
            same["c"] = last(1)

        shelf.all_or_none(deed)
        self.assertEqual(shelf.names, ("a", "b", "c"))
        shelf.back()
        self.assertEqual(shelf.names, ("a",))

    def test_back_is_held(self):
        shelf = shelf_of(a=single())

        def deed(same):
            self.assertEqual(vars(caught(self, Held, same.back)), {})
            same["b"] = pair()
            caught(self, Held, shelf.back)
            shelf.all_or_none(lambda inner: caught(self, Held, inner.back))
            caught(self, Held, shelf.back)

        shelf.all_or_none(deed)
        self.assertEqual(shelf.names, ("a", "b"))
        shelf.back()
        self.assertEqual(shelf.names, ("a",))
        caught(self, Held, Shelf().all_or_none, lambda same: same.back())
        with self.assertRaises(ZeroDivisionError):
            shelf.all_or_none(lambda same: 1 // 0)
        shelf.back()
        caught(self, NothingBack, shelf.back)

    def test_another_shelf_is_not_held(self):
        one, other = shelf_of(a=single()), shelf_of(b=pair())
        one.all_or_none(lambda same: other.back())
        self.assertEqual((one.names, other.names), (("a",), ()))

    def test_inside_one_another(self):
        shelf = shelf_of(a=single())

        def inner(same):
            same["c"] = last(1)
            same.drop("a")

        def outer(same):
            same["b"] = pair()
            same.all_or_none(inner)
            same["d"] = last(2)

        shelf.all_or_none(outer)
        self.assertEqual(shelf.names, ("b", "c", "d"))
        shelf.back()
        self.assertEqual(shelf.names, ("a",))
        shelf.back()
        self.assertEqual(shelf.names, ())
        caught(self, NothingBack, shelf.back)

    def test_the_inner_one_raises(self):
        shelf = shelf_of(a=single())

        def inner(same):
            same["c"] = last(1)
            same.drop("a")
            same.drop("x")

        def outer(same):
            same["b"] = pair()
            before = view(same)
            caught(self, Missing, same.all_or_none, inner)
            self.assertEqual(view(same), before)
            caught(self, Held, same.back)
            same["d"] = last(2)
            return 5

        self.assertEqual(shelf.all_or_none(outer), 5)
        self.assertEqual(shelf.names, ("a", "b", "d"))
        shelf.back()
        self.assertEqual(shelf.names, ("a",))

    def test_the_outer_one_raises(self):
        shelf = shelf_of(a=single())
        before = view(shelf)

        def outer(same):
            same.all_or_none(lambda inner: put(inner, "c", last(1)))
            self.assertEqual(same.names, ("a", "c"))
            same.drop("x")

        caught(self, Missing, shelf.all_or_none, outer)
        self.assertEqual(view(shelf), before)
        shelf.back()
        caught(self, NothingBack, shelf.back)


if __name__ == "__main__":
    unittest.main()
