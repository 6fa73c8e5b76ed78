"""[5], [2]: the error classes and their fields."""

import inspect
import unittest

from farbits import errors

FIELDS = {
    "NotANumber": "value", "NoPlace": "place", "InvalidRange": "start stop",
    "InvalidTurns": "index", "TooLarge": "parts levels", "TooManyTerms": "terms",
    "InvalidPower": "exponent", "NegativeShift": "amount", "NotPower": "value",
    "TooFar": "bits", "BadText": "place", "UnknownName": "name", "NoSuch": "rank",
    "Endless": "value", "InvalidCount": "count", "InvalidTerm": "index",
    "NotShort": "modulus", "InvalidLevels": "value", "NoBlock": "value",
    "TooManyNames": "count", "NotLinear": "place", "InvalidSet": "value",
    "InvalidSize": "amount", "TooManyPieces": "count", "Overlap": "index",
    "NotMapped": "place", "NotOneToOne": "place", "InvalidName": "name",
    "NameTaken": "name", "TooManyRooms": "name", "NoRoom": "name amount",
    "Outside": "address", "RoomThere": "name", "NothingToUndo": "",
    "NoBuddy": "order most", "Guarded": "order many", "BadLine": "line place",
    "Stopped": "line", "TooLong": "", "InvalidLine": "line", "LineFailed": "index",
}

# Fields that are no ints may hold anything, also what no text can be made of.
VALUES = [17, None, "a\nb", (64, 65), [1, [2]], {"a": (1,)}, True, -(2**4000)]


class Errors(unittest.TestCase):
    def test_base(self):
        self.assertEqual(errors.FarError.__bases__, (ValueError,))
        with self.assertRaises(ValueError):
            raise errors.FarError

    def test_the_classes_are_those_of_the_document(self):
        defined = [
            name for name, thing in vars(errors).items()
            if inspect.isclass(thing) and thing.__module__ == "farbits.errors"
        ]
        self.assertEqual(sorted(defined), sorted(["FarError", *FIELDS]))

    def test_each_is_directly_below_far_error(self):
        for name in FIELDS:
            with self.subTest(error=name):
                self.assertEqual(getattr(errors, name).__bases__, (errors.FarError,))

    def test_fields_by_position_and_by_name(self):
        for name, text in FIELDS.items():
            fields = text.split()
            for shift in range(len(VALUES)):
                values = [VALUES[(k + shift) % len(VALUES)] for k in range(len(fields))]
                told = dict(zip(fields, values))
                with self.subTest(error=name, values=values):
                    self.check(getattr(errors, name)(*values), told)
                    self.check(getattr(errors, name)(**told), told)

    def check(self, error, told):
        self.assertEqual(sorted(vars(error)), sorted(told))
        for field, value in told.items():
            self.assertIs(getattr(error, field), value)
        with self.assertRaises(errors.FarError) as caught:
            raise error
        self.assertIs(caught.exception, error)

    def test_messages(self):
        for name, text in FIELDS.items():
            with self.subTest(error=name):
                error = getattr(errors, name)(*[3 for _ in text.split()])
                self.assertTrue(str(error))

    def test_each_takes_exactly_its_fields(self):
        for name, text in FIELDS.items():
            many = len(text.split())
            with self.subTest(error=name):
                with self.assertRaises(TypeError):
                    getattr(errors, name)(*range(many + 1))
                if many:
                    with self.assertRaises(TypeError):
                        getattr(errors, name)(*range(many - 1))


if __name__ == "__main__":
    unittest.main()
