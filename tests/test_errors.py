"""[2] and the interface: the errors."""

import unittest

from onesession import errors
from tests.samples import STRANGE

ATTRIBUTES = {
    "InvalidExpr": ("path",),
    "InvalidApp": ("part", "path"),
    "NoPart": ("value",),
    "InvalidRule": ("part",),
    "BadDeed": ("deed",),
    "BadFault": ("fault",),
    "NoSlot": ("slot",),
    "BatchRefused": ("index",),
    "NothingToUndo": (),
    "NothingToRedo": (),
    "BadJournal": ("index",),
    "NotSaved": (),
    "InvalidWindows": ("part",),
    "NoFault": ("kind", "name"),
    "InvalidParts": ("index",),
    "InvalidBound": ("value",),
    "LimitExceeded": ("limit",),
    "NoStanding": (),
    "InvalidKind": ("kind",),
    "NotComparable": ("part",),
    "InvalidRules": (),
    "InvalidChange": ("index",),
    "InvalidText": ("line",),
}


class ErrorsTest(unittest.TestCase):
    def classes(self):
        return {name: getattr(errors, name) for name in ATTRIBUTES}

    def test_the_base_class(self):
        self.assertEqual(errors.SessionError.__bases__, (ValueError,))

    def test_there_are_these_classes_and_no_others(self):
        found = {name for name, item in vars(errors).items() if isinstance(item, type)}
        self.assertEqual(found, set(ATTRIBUTES) | {"SessionError"})

    def test_each_class_derives_directly_from_the_base_class(self):
        for name, kind in self.classes().items():
            with self.subTest(name):
                self.assertEqual(kind.__bases__, (errors.SessionError,))
                self.assertTrue(issubclass(kind, ValueError))
                self.assertEqual(kind.__module__, "onesession.errors")

    def test_no_class_is_another_one(self):
        classes = self.classes()
        for name, kind in classes.items():
            for other, second in classes.items():
                self.assertEqual(issubclass(kind, second), name == other, (name, other))

    def test_the_attributes_are_the_arguments_in_order(self):
        for name, kind in self.classes().items():
            names = ATTRIBUTES[name]
            for value in STRANGE:
                values = (value, [value, name])[:len(names)]
                error = kind(*values)
                self.assertEqual(tuple(getattr(error, key) for key in names), values)
                for key, passed in zip(names, values):
                    self.assertIs(getattr(error, key), passed)

    def test_a_wrong_number_of_arguments_is_refused(self):
        for name, kind in self.classes().items():
            count = len(ATTRIBUTES[name])
            if count > 0:
                self.assertRaises(TypeError, kind)
                self.assertRaises(TypeError, kind, *range(count + 1))

    def test_what_is_caught_is_what_was_raised(self):
        for name, kind in self.classes().items():
            made = kind(*ATTRIBUTES[name])
            for caught in (kind, errors.SessionError, ValueError):
                try:
                    raise made
                except caught as error:
                    self.assertIs(error, made)
                    self.assertIs(type(error), kind)

    def test_an_error_is_not_caught_as_another_one(self):
        for name, kind in self.classes().items():
            others = tuple(other for key, other in self.classes().items() if key != name)
            with self.assertRaises(kind):
                try:
                    raise kind(*ATTRIBUTES[name])
                except others:
                    self.fail(name)


if __name__ == "__main__":
    unittest.main()
