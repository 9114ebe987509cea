"""Point 70: the family of the errors and their attributes."""

import unittest

from laidink import errors
from laidink.errors import PrintError

# The name of each error, with the attributes that its arguments become.
LISTED = {
    "InvalidBand": ["band"],
    "InvalidInk": ["band"],
    "InvalidTakes": ["takes"],
    "InvalidPass": ["mask"],
    "NoSuchPass": ["number"],
    "NotAnOrder": [],
    "TooLong": ["many"],
    "TooManyMasks": ["many"],
    "Conditional": ["number"],
    "CannotCome": ["place"],
    "InvalidShape": ["line"],
    "WrongSize": ["mask"],
    "UnknownMask": ["mask"],
    "UnknownPlace": ["x", "y"],
    "InvalidText": ["line"],
    "NothingToUndo": [],
    "NothingToRedo": [],
    "InvalidLimit": ["worth"],
    "InvalidRun": ["number"],
}
WORTHS = [0, -1, 7, 10 ** 999, -(10 ** 999), None, "", "sky", "{x}", "\udc80", (3, 4)]


def error_classes():
    found = [getattr(errors, name) for name in dir(errors)]
    return [one for one in found if isinstance(one, type) and issubclass(one, BaseException)]


class Family(unittest.TestCase):
    def test_the_base_is_a_value_error(self):
        self.assertEqual(PrintError.__bases__, (ValueError,))

    def test_there_are_exactly_the_listed_errors(self):
        names = sorted(one.__name__ for one in error_classes())
        self.assertEqual(names, sorted([*LISTED, "PrintError"]))
        self.assertEqual(len(LISTED), 19)

    def test_each_error_is_below_the_base(self):
        for name in LISTED:
            self.assertTrue(issubclass(getattr(errors, name), PrintError), name)

    def test_none_is_below_another_one(self):
        for low in LISTED:
            for high in LISTED:
                if low != high:
                    below = issubclass(getattr(errors, low), getattr(errors, high))
                    self.assertFalse(below, (low, high))

    def test_each_is_defined_in_the_file(self):
        for one in error_classes():
            self.assertEqual(one.__module__, "laidink.errors")


class Attributes(unittest.TestCase):
    def test_arguments_become_the_attributes_and_nothing_else(self):
        for name, attributes in LISTED.items():
            for worth in WORTHS:
                passed = [(worth, at) for at in range(len(attributes))]
                error = getattr(errors, name)(*passed)
                self.assertEqual(vars(error), dict(zip(attributes, passed)), name)

    def test_the_attribute_is_the_argument_itself(self):
        for name, attributes in LISTED.items():
            if len(attributes) == 1:
                for worth in WORTHS:
                    error = getattr(errors, name)(worth)
                    self.assertIs(getattr(error, attributes[0]), worth, name)
        error = errors.UnknownPlace(-1, 10 ** 999)
        self.assertEqual((error.x, error.y), (-1, 10 ** 999))

    def test_arguments_have_the_listed_names(self):
        for name, attributes in LISTED.items():
            error = getattr(errors, name)(**{one: 5 for one in attributes})
            self.assertEqual(vars(error), {one: 5 for one in attributes})

    def test_one_argument_more_or_fewer_is_refused(self):
        for name, attributes in LISTED.items():
            kind = getattr(errors, name)
            with self.assertRaises(TypeError):
                kind(*[1] * (len(attributes) + 1))
            if attributes:
                with self.assertRaises(TypeError):
                    kind(*[1] * (len(attributes) - 1))

    def test_each_has_a_message(self):
        for name, attributes in LISTED.items():
            for worth in WORTHS:
                error = getattr(errors, name)(*[worth for _ in attributes])
                self.assertNotEqual(str(error), "")

    def test_each_can_be_raised_and_caught(self):
        for name, attributes in LISTED.items():
            kind = getattr(errors, name)
            for caught in [kind, PrintError, ValueError]:
                with self.assertRaises(caught):
                    raise kind(*[1 for _ in attributes])


if __name__ == "__main__":
    unittest.main()
