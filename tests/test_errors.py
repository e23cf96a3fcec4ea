"""The errors of errors.py."""

import unittest

from quasifloors import errors

NAMES = """InvalidKind InvalidNumber InvalidPoint InvalidPlace InvalidPolygon InvalidFloor InvalidRadius
InvalidBox InvalidPatch InvalidPair NoPatch NotInFloor DividedByZero InvalidMatrix InvalidUnit InvalidRule
InvalidRow InvalidMember InvalidWord InvalidName NoWord NotWithin UnknownName WrongKind NothingToUndo
Unreadable Unorderly""".split()
VALUES = [0, -7, 10 ** 5000, "a text", "", True, False, None, (), (1, (2, 3)), [], [1, [2]], {"a": 1}, b"ab"]


class Errors(unittest.TestCase):
    def classes(self):
        return [errors.FloorError] + [getattr(errors, name) for name in NAMES]

    def test_all_are_there(self):
        self.assertEqual(len(self.classes()), 28)
        self.assertEqual(len(set(self.classes())), 28)
        for name in NAMES:
            self.assertEqual(getattr(errors, name).__name__, name)
            self.assertEqual(getattr(errors, name).__module__, "quasifloors.errors")

    def test_what_they_are(self):
        self.assertEqual(errors.FloorError.__bases__, (ValueError,))
        for name in NAMES:
            self.assertEqual(getattr(errors, name).__bases__, (errors.FloorError,))

    def test_value_by_position_and_by_name(self):
        for told in self.classes():
            for value in VALUES:
                for error in (told(value), told(value=value)):
                    self.assertIs(error.value, value)
                    self.assertIs(type(error.value), type(value))

    def test_one_argument(self):
        for told in self.classes():
            for wrong in (lambda: told(), lambda: told(1, 2), lambda: told(other=1), lambda: told(1, value=1)):
                with self.assertRaises(TypeError):
                    wrong()

    def test_what_they_are_caught_by(self):
        for told in self.classes():
            for caught in (told, errors.FloorError, ValueError, Exception):
                with self.assertRaises(caught) as seen:
                    raise told((1, 2))
                self.assertEqual(seen.exception.value, (1, 2))

    def test_none_is_caught_by_another_one(self):
        for one in self.classes()[1:]:
            for other in self.classes()[1:]:
                self.assertEqual(issubclass(one, other), one is other)


if __name__ == "__main__":
    unittest.main()
