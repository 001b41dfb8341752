"""errors.py: the classes, and what each is made with."""

import unittest

from squarethreads import errors

NAMES = (
    "InvalidBook", "InvalidKind", "InvalidDepth", "InvalidCell", "InvalidNumber", "InvalidBox", "InvalidPosture",
    "InvalidPair", "InvalidField", "InvalidPicture", "InvalidMake", "InvalidStore", "InvalidName", "UnknownName",
    "NothingToUndo", "Unreadable", "Unorderly",
)
VALUES = (0, 7, -3, 10 ** 40, "", "a text", True, False, (), (1, 2), ((1,), "b"), [], [1, [2]], None)


class Classes(unittest.TestCase):
    def test_seventeen_below_one(self):
        self.assertEqual(len(NAMES), 17)
        self.assertEqual(errors.ThreadError.__bases__, (ValueError,))
        for name in NAMES:
            self.assertEqual(getattr(errors, name).__bases__, (errors.ThreadError,), name)
            self.assertEqual(getattr(errors, name).__module__, "squarethreads.errors")

    def test_value_by_position_and_by_name(self):
        for name in ("ThreadError",) + NAMES:
            kind = getattr(errors, name)
            for value in VALUES:
                self.assertIs(kind(value).value, value)
                self.assertIs(kind(value=value).value, value)

    def test_exactly_one_argument(self):
        for name in ("ThreadError",) + NAMES:
            kind = getattr(errors, name)
            self.assertRaises(TypeError, kind)
            self.assertRaises(TypeError, kind, 1, 2)

    def test_caught_as_thread_error_and_as_value_error(self):
        for name in ("ThreadError",) + NAMES:
            kind = getattr(errors, name)
            for caught in (kind, errors.ThreadError, ValueError):
                for value in VALUES:
                    with self.assertRaises(caught) as held:
                        raise kind(value)
                    self.assertIs(held.exception.value, value)
                    with self.assertRaises(caught) as held:
                        raise kind(value=value)
                    self.assertIs(held.exception.value, value)

    def test_of_no_other_class(self):
        for name in NAMES:
            for other in NAMES:
                made = getattr(errors, name)(1)
                self.assertEqual(isinstance(made, getattr(errors, other)), name == other)
            self.assertNotIsInstance(errors.ThreadError(1), getattr(errors, name))

    def test_value_is_of_each_object(self):
        one, other = errors.InvalidBook(1), errors.InvalidBook(2)
        self.assertEqual((one.value, other.value), (1, 2))
        value = [1, [2]]
        errors.InvalidCell(value)
        self.assertEqual(value, [1, [2]])


if __name__ == "__main__":
    unittest.main()
