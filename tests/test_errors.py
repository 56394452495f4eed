"""[4] and [40]: the errors, their bases and their attributes."""

import copy
import unittest

from turnsets import errors

ATTRIBUTES = {
    "BadRow": ("index",),
    "NoBox": ("box",),
    "BadMove": ("box", "into"),
    "NotShut": ("box",),
    "BadDefault": (),
    "Locked": ("box",),
    "UnlikeTrees": (),
    "LockedTree": (),
    "BadDeed": ("index",),
    "Clash": ("box",),
    "BadRule": ("rule",),
    "BadWish": ("box",),
    "Barred": ("one", "other"),
    "BadNumber": ("number",),
    "TooDear": ("cost",),
    "BadRange": ("box",),
    "BadTable": ("word",),
    "NotSure": ("box",),
    "BadLine": ("index",),
}


class Errors(unittest.TestCase):

    def test_box_error_is_a_direct_subclass_of_value_error(self):
        self.assertEqual(errors.BoxError.__bases__, (ValueError,))
        self.assertEqual(vars(errors.BoxError()), {})

    def test_all_others_are_direct_subclasses_of_box_error(self):
        for name in ATTRIBUTES:
            self.assertEqual(getattr(errors, name).__bases__, (errors.BoxError,), name)

    def test_there_are_no_others(self):
        found = [name for name, thing in vars(errors).items() if isinstance(thing, type)]
        self.assertEqual(sorted(found), sorted(list(ATTRIBUTES) + ["BoxError"]))

    def test_attributes_by_position_are_what_was_passed(self):
        for name, attributes in ATTRIBUTES.items():
            passed = [[name, place] for place in range(len(attributes))]
            error = getattr(errors, name)(*passed)
            self.assertEqual(list(vars(error)), list(attributes), name)
            for attribute, value in zip(attributes, passed):
                self.assertIs(getattr(error, attribute), value, name)

    def test_attributes_by_name_are_what_was_passed(self):
        for name, attributes in ATTRIBUTES.items():
            passed = {attribute: [name, attribute] for attribute in reversed(attributes)}
            error = getattr(errors, name)(**passed)
            self.assertEqual(sorted(vars(error)), sorted(attributes), name)
            for attribute, value in passed.items():
                self.assertIs(getattr(error, attribute), value, name)

    def test_an_error_lacks_none_of_its_attributes(self):
        for name, attributes in ATTRIBUTES.items():
            if attributes:
                with self.assertRaises(TypeError, msg=name):
                    getattr(errors, name)()

    def test_errors_can_be_caught_as_value_errors(self):
        for name, attributes in ATTRIBUTES.items():
            with self.assertRaises(ValueError):
                raise getattr(errors, name)(*attributes)

    def test_errors_can_be_copied_and_shown(self):
        for name, attributes in ATTRIBUTES.items():
            error = copy.copy(getattr(errors, name)(*attributes))
            self.assertEqual([getattr(error, attribute) for attribute in attributes], list(attributes))
            self.assertIsInstance(str(error), str)


if __name__ == "__main__":
    unittest.main()
