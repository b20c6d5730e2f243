"""The error classes of the document."""

import unittest

from wishkeep import errors

NAMES = (
    "BadName", "BadBoard", "BadLetter", "BadTurn", "BadLoop", "BadWish", "BadRow", "BadTask", "BadMachine",
    "BadPlan", "BadPosition", "BadRun", "NoMachine", "NoPlan", "BadArena", "BadNumber", "TooGreat", "BadText",
)


class Errors(unittest.TestCase):
    def test_each_stands_right_under_wish_error(self):
        for name in NAMES:
            with self.subTest(name):
                self.assertEqual(getattr(errors, name).__bases__, (errors.WishError,))
                self.assertEqual(getattr(errors, name).__module__, "wishkeep.errors")

    def test_wish_error_is_a_value_error(self):
        self.assertEqual(errors.WishError.__bases__, (ValueError,))

    def test_none_stands_under_another(self):
        for name in NAMES:
            for other in NAMES:
                under = issubclass(getattr(errors, name), getattr(errors, other))
                self.assertEqual(under, name == other, (name, other))

    def test_there_are_no_others(self):
        found = {name for name, thing in vars(errors).items() if isinstance(thing, type)}
        self.assertEqual(found, set(NAMES) | {"WishError"})

    def test_bad_text_has_its_fields(self):
        error = errors.BadText(3, 14)
        self.assertEqual((error.line, error.at), (3, 14))

    def test_all_are_caught_as_wish_errors(self):
        for name in NAMES:
            made = getattr(errors, name)
            with self.assertRaises(errors.WishError):
                if name == "BadText":
                    raise made(1, 0)
                raise made("so")


if __name__ == "__main__":
    unittest.main()
