"""Point 2 and errors.py: the refusals, how they stand to one another, and their values."""

import unittest

from strokegrow import errors
from strokegrow.errors import GrowError

MADE_WITH_A_TEXT = ("NoPen", "NoDeed", "NoRound", "TooLong", "NothingDone")
VALUES = (
    ("NoRules", "row", (0, 3, 6)),
    ("NoWord", "at", (0, 8, 400)),
    ("NoText", "which", (0, 1, 250)),
    ("NoLetter", "letter", ("", "z", "Z", "ff", "a'b\"c", "{letter}", "x" * 1000)),
    ("NoPlace", "place", (0, -1, 7, 10 ** 199, -(10 ** 199), 8 ** 201)),
    ("NoLine", "line", ("", " ", "lenght 3", "rules  ", "{line}", "y" * 1000)),
)
ALL_NAMES = MADE_WITH_A_TEXT + tuple(name for name, value, samples in VALUES)


def made(name):
    """One object of each refusal."""
    samples = {row[0]: row[2][0] for row in VALUES}
    return getattr(errors, name)(samples.get(name, "words"))


class Refusals(unittest.TestCase):
    def test_there_are_eleven(self):
        self.assertEqual(len(set(ALL_NAMES)), 11)
        for name in ALL_NAMES:
            self.assertTrue(isinstance(getattr(errors, name), type), name)

    def test_grow_error_is_a_value_error(self):
        self.assertEqual(GrowError.__bases__, (ValueError,))

    def test_each_stands_right_under_grow_error(self):
        for name in ALL_NAMES:
            self.assertEqual(getattr(errors, name).__bases__, (GrowError,), name)

    def test_each_is_a_grow_error_and_none_of_the_others(self):
        for name in ALL_NAMES:
            error = made(name)
            self.assertIsInstance(error, GrowError)
            self.assertIsInstance(error, ValueError)
            for other in ALL_NAMES:
                is_other = isinstance(error, getattr(errors, other))
                self.assertEqual(is_other, other == name, (name, other))

    def test_each_can_be_raised_and_taken(self):
        for name in ALL_NAMES:
            error = made(name)
            with self.assertRaises(GrowError) as caught:
                raise error
            self.assertIs(caught.exception, error)
            with self.assertRaises(getattr(errors, name)):
                raise made(name)

    def test_made_with_a_text(self):
        for name in MADE_WITH_A_TEXT:
            for text in ("", "some words", "x" * 1000):
                self.assertIsInstance(getattr(errors, name)(text), getattr(errors, name))

    def test_values(self):
        for name, value, samples in VALUES:
            for sample in samples:
                error = getattr(errors, name)(sample)
                self.assertEqual(getattr(error, value), sample, name)
                self.assertIs(type(getattr(error, value)), type(sample), name)
                self.assertIsInstance(str(error), str)

    def test_objects_keep_their_own_values(self):
        for name, value, samples in VALUES:
            one = getattr(errors, name)(samples[0])
            other = getattr(errors, name)(samples[1])
            self.assertEqual(getattr(one, value), samples[0], name)
            self.assertEqual(getattr(other, value), samples[1], name)


if __name__ == "__main__":
    unittest.main()
