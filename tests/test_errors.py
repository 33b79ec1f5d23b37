"""Point 5 and the list of errors in the interface."""

import unittest

from seenrows import errors
from seenrows.filters import Filter

PLAIN = (
    "UnlikePrimes", "ZeroFilter", "BadRule", "BadDigits", "UnlikeTables", "BadSequences", "NoRows", "NotCase",
    "UnlikeWorlds", "NotTold", "Impossible", "BadPlaces", "NothingToUndo", "BadText",
)
PARAMETER = {
    "BadPrime": "prime", "BadTerm": "index", "BadWidth": "width", "BadRow": "index", "BadCount": "count",
    "BadPlace": "place", "BadName": "name", "NoName": "name", "BadWord": "word", "BadLine": "index",
}
OBJECTS = (None, True, 0, 10 ** 30, "", "ab", [], [1, [2]], (1, (2,)), {}, {"a": [1]}, Filter(2), Filter(3, [(0, 1)]))


def error_class(name):
    return getattr(errors, name)


class Errors(unittest.TestCase):
    def test_every_error_stands_in_the_file(self):
        for name in PLAIN + tuple(PARAMETER) + ("SeenError",):
            with self.subTest(name):
                self.assertEqual(error_class(name).__module__, "seenrows.errors")
                self.assertEqual(error_class(name).__name__, name)

    def test_each_is_a_seen_error_and_a_value_error(self):
        self.assertTrue(issubclass(errors.SeenError, ValueError))
        for name in PLAIN + tuple(PARAMETER):
            with self.subTest(name):
                self.assertTrue(issubclass(error_class(name), errors.SeenError))

    def test_none_is_a_subclass_of_another(self):
        names = PLAIN + tuple(PARAMETER)
        for one in names:
            for two in names:
                if one != two:
                    self.assertFalse(issubclass(error_class(one), error_class(two)), (one, two))

    def test_those_without_parameters(self):
        for name in PLAIN:
            with self.subTest(name):
                with self.assertRaises(error_class(name)):
                    raise error_class(name)()

    def test_those_with_a_parameter_keep_the_very_object(self):
        for name, parameter in PARAMETER.items():
            for thing in OBJECTS:
                with self.subTest(name, thing=thing):
                    self.assertIs(getattr(error_class(name)(thing), parameter), thing)
                    self.assertIs(getattr(error_class(name)(**{parameter: thing}), parameter), thing)

    def test_those_with_a_parameter_need_it(self):
        for name in PARAMETER:
            with self.assertRaises(TypeError):
                error_class(name)()

    def test_caught_by_the_base(self):
        with self.assertRaises(errors.SeenError):
            Filter(4)
        with self.assertRaises(ValueError):
            Filter(2, 0)

    def test_a_kept_list_is_no_copy(self):
        thing = [1]
        error = errors.BadPrime(thing)
        thing.append(2)
        self.assertEqual(error.prime, [1, 2])


if __name__ == "__main__":
    unittest.main()
