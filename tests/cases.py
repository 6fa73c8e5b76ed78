"""What the tests of sets, maps, books, rooms, stores, programs and desks share."""

import operator
import unittest

from farbits.errors import TooLarge
from farbits.far import Far
from tests import model

NO_NUMBERS = [None, True, False, "5", b"5", (), (5,), [5], {}, 1.0, object()]
NO_NAMES = [None, True, 5, Far(5), "", "A", "aB", "a1", "a b", " a", "a ", "abcdefghi", "repeat", "if",
            "else", "end", b"a", ("a",), ["a"], {"a": 1}, 1.0, object()]
NO_PLACES = [-1, Far(-1), -2**64 - 1, -Far.power(2**70)]
# An int that is too large: every other one of its bits is a one.
WIDE = int("10" * 1100, 2)
WIDE_SIZE = 2201
# Factors by which small cases are made far ones, and the powers of two that they are.
SCALES = [(1, 0), (2**64, 64), (Far.power(2**70), Far(2**70)),
          (Far.power(Far.power(2**70) + 5), Far.power(2**70) + 5)]


class Case(unittest.TestCase):
    def raises(self, error, fields, function, *arguments, **named):
        """An error with these very fields: of equal value and of the same kind."""
        with self.assertRaises(error) as caught:
            function(*arguments, **named)
        self.assertIs(type(caught.exception), error)
        self.assertEqual(list(vars(caught.exception)), list(fields))
        for field, value in fields.items():
            found = getattr(caught.exception, field)
            self.assertIs(type(found), type(value))
            if not isinstance(value, Far):
                self.assertIs(found == value, True)
            self.assertEqual(found, value)
        return caught.exception

    def raises_same(self, error, fields, function, *arguments, **named):
        """An error that holds the objects that were passed."""
        found = self.raises(error, fields, function, *arguments, **named)
        for field, value in fields.items():
            self.assertIs(getattr(found, field), value)

    def too_large(self, parts, levels, function, *arguments, **named):
        self.raises(TooLarge, {"parts": parts, "levels": levels}, function, *arguments, **named)

    def no_such_operator(self, sign, x, y):
        with self.assertRaises(TypeError) as caught:
            getattr(operator, sign)(x, y)
        self.assertIs(type(caught.exception), TypeError)

    def gives(self, found, value):
        """A Far, or pairs and lists of them, of these values."""
        if isinstance(value, (tuple, list)):
            self.assertIs(type(found), type(value))
            self.assertEqual(len(found), len(value))
            for one, other in zip(found, value):
                self.gives(one, other)
        elif value is None or isinstance(value, (str, bool)):
            self.assertIs(type(found), type(value))
            self.assertEqual(found, value)
        else:
            self.assertIs(type(found), Far)
            self.assertEqual(found, value)


def both_kinds(x):
    return [x, Far(x)]


def scaled(x, factor):
    """Numbers, also in lists, tuples and dicts, times a factor."""
    if isinstance(x, (list, tuple)):
        return type(x)(scaled(one, factor) for one in x)
    return x if x is None or isinstance(x, str) else x * factor


def ranges_of(places):
    """The list of the longest ranges of a set of small places."""
    found = []
    for place in sorted(places):
        if found and found[-1][1] == place:
            found[-1] = (found[-1][0], place + 1)
        else:
            found.append((place, place + 1))
    return found


def bits_of(places):
    return sum(1 << place for place in places)


def far_sets(name, many=40, most=300):
    """Models from 0 on and the far forms that they stand for."""
    source = model.source_of(name)
    found = []
    while len(found) < many:
        drawn = abs(model.random_model(source, 12))
        form = model.far_form(drawn)
        if model.size(form) <= most:
            found.append((drawn, form))
    return found
