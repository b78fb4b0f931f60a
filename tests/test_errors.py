"""Point 15: the errors, their bases and what they keep."""

import unittest

from anyrowline import errors
from anyrowline.errors import (BadLine, BadModel, BadPair, BadState, BadSyntax, BadTask, BadValue, RowError,
                               TooMany)

WITH_AT = (BadValue, BadTask, BadPair, BadModel, BadState, BadSyntax, BadLine)
ALL = WITH_AT + (TooMany,)


class Bases(unittest.TestCase):
    def test_row_error_is_of_exception_alone(self):
        self.assertEqual(RowError.__bases__, (Exception,))

    def test_each_error_is_of_row_error_alone(self):
        for error in ALL:
            with self.subTest(error=error.__name__):
                self.assertEqual(error.__bases__, (RowError,))

    def test_the_names_and_the_file(self):
        names = ("BadValue", "BadTask", "BadPair", "BadModel", "BadState", "BadSyntax", "BadLine", "TooMany",
                 "RowError")
        for name in names:
            with self.subTest(name=name):
                error = getattr(errors, name)
                self.assertEqual(error.__name__, name)
                self.assertEqual(error.__module__, "anyrowline.errors")

    def test_they_are_eight(self):
        self.assertEqual(len({error.__name__ for error in ALL}), 8)


class Attributes(unittest.TestCase):
    def test_at_is_kept(self):
        for error in WITH_AT:
            for at in (0, 1, 2, 7, 199, 20000):
                with self.subTest(error=error.__name__, at=at):
                    self.assertEqual(error(at).at, at)
                    self.assertIs(type(error(at).at), int)
                    self.assertEqual(error(at=at).at, at)

    def test_word_is_kept(self):
        for word in ("tasks", "pairs", "models", "states", "plans", "divisions"):
            with self.subTest(word=word):
                self.assertEqual(TooMany(word).word, word)
                self.assertEqual(TooMany(word=word).word, word)

    def test_each_object_keeps_its_own(self):
        for error in WITH_AT:
            first, second = error(3), error(4)
            self.assertEqual((first.at, second.at), (3, 4))
        first, second = TooMany("tasks"), TooMany("plans")
        self.assertEqual((first.word, second.word), ("tasks", "plans"))

    def test_raised_they_are_caught_by_their_base_and_keep_what_they_have(self):
        for error in WITH_AT:
            with self.subTest(error=error.__name__):
                with self.assertRaises(RowError) as caught:
                    raise error(5)
                self.assertIs(type(caught.exception), error)
                self.assertEqual(caught.exception.at, 5)
        with self.assertRaises(RowError) as caught:
            raise TooMany("states")
        self.assertIs(type(caught.exception), TooMany)
        self.assertEqual(caught.exception.word, "states")

    def test_none_catches_another(self):
        for error in ALL:
            for other in ALL:
                with self.subTest(error=error.__name__, other=other.__name__):
                    self.assertEqual(issubclass(error, other), error is other)


if __name__ == "__main__":
    unittest.main()
