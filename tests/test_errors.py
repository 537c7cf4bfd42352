"""keptlikes.errors: every class, its base, its attribute, and how it is made (point 4)."""

import inspect
import unittest

from keptlikes import errors
from tests.helpers import deep, strange_values

BASES = {"InputError": ValueError, "StateError": LookupError, "SizeError": ArithmeticError}

WITH_VALUE = (
    "NotAHeap", "NotALiveHeap", "InvalidWay", "InvalidName", "InvalidOrder", "InvalidThing",
    "InvalidWorth", "InvalidReach", "InvalidSet", "InvalidCount", "InvalidLine",
)
WITH_INDEX = (
    "InvalidWorths", "InvalidPairs", "InvalidPlaces", "InvalidWords", "InvalidRows", "InvalidNear",
    "InvalidDeeds",
)
WITHOUT = ("NothingToUndo", "Busy")


def with_attribute():
    """Each class with an attribute, together with its base and the attribute's name."""
    rows = [(name, errors.InputError, "value") for name in WITH_VALUE]
    rows += [(name, errors.InputError, "index") for name in WITH_INDEX]
    rows += [("TooMany", errors.SizeError, "limit")]
    return [(getattr(errors, name), base, attribute) for name, base, attribute in rows]


class Classes(unittest.TestCase):
    def test_bases(self):
        for name, base in BASES.items():
            with self.subTest(name=name):
                self.assertEqual(getattr(errors, name).__bases__, (base,))

    def test_derived_from_the_base_only(self):
        for error, base, _ in with_attribute():
            with self.subTest(error=error):
                self.assertEqual(error.__bases__, (base,))
        for name in WITHOUT:
            with self.subTest(name=name):
                self.assertEqual(getattr(errors, name).__bases__, (errors.StateError,))

    def test_all_are_defined_there_and_no_others(self):
        found = [name for name, value in vars(errors).items() if inspect.isclass(value)]
        self.assertEqual(sorted(found), sorted((*BASES, *WITH_VALUE, *WITH_INDEX, *WITHOUT, "TooMany")))
        for name in found:
            self.assertEqual(getattr(errors, name).__module__, "keptlikes.errors")
            self.assertEqual(getattr(errors, name).__name__, name)


class Making(unittest.TestCase):
    def test_without_arguments(self):
        for name in (*BASES, *WITHOUT):
            with self.subTest(name=name):
                made = getattr(errors, name)()
                self.assertEqual(vars(made), {})
                self.assertTrue(made)

    def test_by_position_and_by_name(self):
        for error, _, attribute in with_attribute():
            for held in (*strange_values(), 0, 7, -(10 ** 19), "", "word", (), (0, 1), deep(15)):
                with self.subTest(error=error, kind=type(held)):
                    self.assertIs(vars(error(held))[attribute], held)
                    self.assertIs(vars(error(**{attribute: held}))[attribute], held)

    def test_exactly_one_argument(self):
        for error, _, attribute in with_attribute():
            with self.subTest(error=error):
                self.assertEqual(list(inspect.signature(error).parameters), [attribute])
                self.assertEqual(list(vars(error(3))), [attribute])
                self.assertRaises(TypeError, error)
                self.assertRaises(TypeError, error, 1, 2)

    def test_all_are_true(self):
        for error, _, _ in with_attribute():
            self.assertTrue(error(None))


class Catching(unittest.TestCase):
    def caught_as(self, error, base):
        try:
            raise error
        except base as caught:
            return caught is error

    def test_by_base_and_by_the_base_of_python(self):
        for error, base, _ in with_attribute():
            for wider in (base, base.__base__, Exception):
                self.assertTrue(self.caught_as(error(0), wider))
        for name in WITHOUT:
            for wider in (errors.StateError, LookupError, Exception):
                self.assertTrue(self.caught_as(getattr(errors, name)(), wider))

    def test_the_three_bases_stay_apart(self):
        for one, python in BASES.items():
            for other in BASES:
                self.assertEqual(issubclass(getattr(errors, other), getattr(errors, one)), one == other)
                self.assertEqual(issubclass(getattr(errors, other), python), one == other)

    def test_equality_is_that_of_objects(self):
        made = errors.InvalidThing(3)
        self.assertTrue(made == made)
        self.assertTrue(made != errors.InvalidThing(3))
        self.assertFalse(made == 3)


if __name__ == "__main__":
    unittest.main()
