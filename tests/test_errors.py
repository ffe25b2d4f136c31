import unittest

from evenkeeps import errors

FAMILIES = {
    "TextError": (ValueError, {
        "InvalidText": ("value",), "NotARatio": ("value",), "NotASampler": ("value",), "NotAJoin": ("value",),
        "NotAPlayer": ("value",), "InvalidLength": ("value",), "InvalidItem": ("value",),
        "InvalidPlace": ("value",), "InvalidCount": ("value",), "InvalidFraction": ("value",),
        "InvalidDraws": ("index",), "InvalidEdit": ("index",),
    }),
    "ProgramError": (LookupError, {
        "UnknownPlace": ("line",), "NotDrawn": ("line",), "DrawnTwice": ("line",), "BelowOne": ("line",),
        "TooMuch": ("what",), "Unsettled": ("line",),
    }),
    "KeepError": (RuntimeError, {
        "UnlikePlaces": (), "NothingBack": (), "Held": (), "ZeroBelow": (),
        "Gap": ("at",), "Missing": ("name",), "Refused": ("name", "demand"),
    }),
}
VALUES = (
    0, 1, -7, 10 ** 30, "", "places 1", b"x", None, True, False, (), (1, 2), ((1,), ("a", None)), [], [1, [2]],
    {"a": 1}, {3}, object(), len, ValueError("inside"),
)


def members():
    for family, (above, classes) in FAMILIES.items():
        for name, fields in classes.items():
            yield getattr(errors, family), above, getattr(errors, name), fields


class Errors(unittest.TestCase):
    def test_families(self):
        for family, (above, classes) in FAMILIES.items():
            with self.subTest(family):
                self.assertEqual(getattr(errors, family).__bases__, (above,))

    def test_each_class_belongs_to_its_family_only(self):
        for family, above, kind, fields in members():
            with self.subTest(kind.__name__):
                self.assertEqual(kind.__mro__, (kind, family, above) + above.__mro__[1:])
                for other, (python, classes) in FAMILIES.items():
                    self.assertEqual(issubclass(kind, getattr(errors, other)), getattr(errors, other) is family)
                    self.assertEqual(issubclass(kind, python), python is above)

    def test_no_class_is_missing_or_too_many(self):
        expected = set(FAMILIES)
        for above, classes in FAMILIES.values():
            expected |= set(classes)
        found = {name for name, thing in vars(errors).items() if isinstance(thing, type)}
        self.assertEqual(found, expected)
        for name in found:
            self.assertEqual(getattr(errors, name).__module__, "evenkeeps.errors")

    def test_fields_by_position_and_by_name(self):
        for family, above, kind, fields in members():
            for value in VALUES:
                with self.subTest(kind.__name__, value=value):
                    given = tuple([value] * len(fields))
                    for error in (kind(*given), kind(**dict(zip(fields, given)))):
                        self.assertEqual(set(vars(error)), set(fields))
                        for field in fields:
                            self.assertIs(getattr(error, field), value)

    def test_two_fields_are_not_mixed_up(self):
        for error in (
            errors.Refused("a", "even"), errors.Refused("a", demand="even"),
            errors.Refused(demand="even", name="a"),
        ):
            self.assertEqual((error.name, error.demand), ("a", "even"))

    def test_fields_are_needed(self):
        for family, above, kind, fields in members():
            with self.subTest(kind.__name__):
                if fields:
                    self.assertRaises(TypeError, kind)
                    self.assertRaises(TypeError, kind, *([1] * (len(fields) + 1)))
                    self.assertRaises(TypeError, lambda: kind(other=1))

    def test_they_are_raised_and_caught_by_class_family_and_pythons_class(self):
        for family, above, kind, fields in members():
            for wanted in (kind, family, above):
                with self.subTest(kind.__name__, wanted=wanted):
                    with self.assertRaises(wanted) as held:
                        raise kind(*range(len(fields)))
                    self.assertEqual([getattr(held.exception, field) for field in fields], list(range(len(fields))))

    def test_messages_can_be_written_however_the_error_was_made(self):
        for family, above, kind, fields in members():
            for error in (kind(*[None] * len(fields)), kind(**{field: (1, "a") for field in fields})):
                self.assertIsInstance(str(error), str)
                self.assertIsInstance(repr(error), str)


if __name__ == "__main__":
    unittest.main()
