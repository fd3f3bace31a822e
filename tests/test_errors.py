"""[4]: the errors."""

import unittest

from caseshome import errors
from caseshome.errors import (CaseError, InvalidCarry, InvalidCommand, InvalidDeed, InvalidHeap, InvalidOctets,
                              InvalidPlan, InvalidRun, InvalidSize, InvalidTerm, InvalidText, NoName, Refused)
from tests.helpers import ODD, Case, nested

ATTRIBUTES = ((InvalidHeap, ("at",)), (InvalidPlan, ("word", "at")), (InvalidText, ("at",)), (InvalidRun, ("at",)),
              (InvalidTerm, ("place",)), (InvalidCarry, ("at",)), (InvalidDeed, ("at",)), (InvalidOctets, ("at",)),
              (InvalidCommand, ()), (InvalidSize, ("word",)), (Refused, ("word",)), (NoName, ("name",)))


class Errors(Case):
    def test_direct_subclasses(self):
        self.assertEqual(CaseError.__bases__, (Exception,))
        for kind, _ in ATTRIBUTES:
            self.assertEqual(kind.__bases__, (KeyError,) if kind is NoName else (CaseError,))

    def test_defined_in_their_module(self):
        for kind in [CaseError] + [kind for kind, _ in ATTRIBUTES]:
            self.assertEqual(kind.__module__, "caseshome.errors")
            self.assertIs(getattr(errors, kind.__name__), kind)

    def test_attributes_by_position_and_by_names(self):
        for kind, names in ATTRIBUTES:
            values = tuple(object() for _ in names)
            for error in (kind(*values), kind(**dict(zip(names, values)))):
                for name, value in zip(names, values):
                    self.assertIs(getattr(error, name), value)

    def test_any_values_are_kept_as_they_are(self):
        for value in ODD + (nested(80),):
            for kind, names in ATTRIBUTES:
                error = kind(*[value for _ in names])
                for name in names:
                    self.assertIs(getattr(error, name), value)

    def test_later_changes_to_an_argument_are_seen(self):
        for kind, names in ATTRIBUTES:
            if names:
                value = [1]
                error = kind(*[value for _ in names])
                value.append(2)
                for name in names:
                    self.exact(getattr(error, name), [1, 2])

    def test_unlike_classes_are_never_equal(self):
        for value in (0, -1, "used", ()):
            for kind, names in ATTRIBUTES:
                for other, others in ATTRIBUTES:
                    if kind is not other:
                        one, two = kind(*[value for _ in names]), other(*[value for _ in others])
                        self.assertFalse(one == two)
                        self.assertTrue(one != two)

    def test_caught_by_their_bases(self):
        for kind, names in ATTRIBUTES:
            try:
                raise kind(*[0 for _ in names])
            except CaseError as error:
                self.assertIsNot(type(error), NoName)
            except KeyError as error:
                self.assertIs(type(error), NoName)


if __name__ == "__main__":
    unittest.main()
