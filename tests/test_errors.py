"""The refusals: their fields, and what they stand under."""

import unittest

from dueworth.errors import BadText, DueError, NoHouse, NoRow, NoStory, Stuck, TooLong, TooMany

FIELDS = {
    BadText: ("row",),
    NoHouse: ("word", "name"),
    Stuck: ("row",),
    TooLong: ("most",),
    NoStory: (),
    TooMany: (),
    NoRow: (),
}
THINGS = (0, 7, -3, "", "a text", None, ("a", 1), [1, [2]], {"k": []}, True)


def made(kind, things):
    return kind(*things[:len(FIELDS[kind])])


class TestErrors(unittest.TestCase):
    def test_fields_are_kept_of_any_things(self):
        for kind, fields in FIELDS.items():
            for number in range(len(THINGS)):
                things = (THINGS + THINGS)[number:number + 2]
                error = made(kind, things)
                for field, thing in zip(fields, things):
                    self.assertEqual(getattr(error, field), thing)
                    self.assertIs(type(getattr(error, field)), type(thing))

    def test_word_and_name_are_not_exchanged(self):
        error = NoHouse("twice", "jar")
        self.assertEqual((error.word, error.name), ("twice", "jar"))

    def test_each_is_a_due_error_and_a_value_error(self):
        for kind in FIELDS:
            error = made(kind, ("x", "y"))
            self.assertIsInstance(error, DueError)
            self.assertIsInstance(error, ValueError)
        self.assertTrue(issubclass(DueError, ValueError))

    def test_none_is_under_another_one(self):
        for kind in FIELDS:
            for other in FIELDS:
                self.assertEqual(issubclass(kind, other), kind == other)
            self.assertFalse(issubclass(DueError, kind))

    def test_two_made_apart_keep_their_own_fields(self):
        for kind, fields in FIELDS.items():
            one = made(kind, (1, 2))
            other = made(kind, (3, 4))
            for number, field in enumerate(fields):
                self.assertEqual(getattr(one, field), number + 1)
                self.assertEqual(getattr(other, field), number + 3)

    def test_each_raised_is_caught_as_a_due_error(self):
        for kind, fields in FIELDS.items():
            try:
                raise made(kind, (5, 6))
            except DueError as caught:
                self.assertIs(type(caught), kind)
                self.assertEqual([getattr(caught, field) for field in fields], [5, 6][:len(fields)])


if __name__ == "__main__":
    unittest.main()
