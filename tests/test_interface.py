"""The names, arguments and places of the interface, as far as it has landed."""

import importlib
import inspect
import unittest

FUNCTIONS = {
    "farbits.forms": {
        "is_form": ["value"],
        "size_of": ["x"],
        "height_of": ["x"],
        "turns_of": ["x"],
        "form_of": ["turns"],
        "order_of": ["x", "y"],
        "bit_of": ["x", "p"],
        "successor": ["x"],
        "negate": ["x"],
        "add": ["x", "y"],
        "subtract": ["x", "y"],
        "bit_not": ["x"],
        "bit_and": ["x", "y"],
        "bit_or": ["x", "y"],
        "bit_xor": ["x", "y"],
    },
    "farbits.products": {
        "shift_left": ["x", "s"],
        "shift_right": ["x", "s"],
        "divide": ["x", "y"],
        "multiply": ["x", "y"],
        "power": ["x", "n"],
    },
    "farbits.texts": {
        "read_form": ["text", "values=None"],
        "write_form": ["x"],
    },
    "farbits.counting": {
        "ones_below": ["x", "p"],
        "zeros_below": ["x", "p"],
        "kth_one": ["x", "k"],
        "kth_zero": ["x", "k"],
        "one_from": ["x", "p"],
        "zero_from": ["x", "p"],
        "ones": ["x"],
        "distance": ["x", "y"],
        "highest_difference": ["x", "y"],
        "holders": ["a", "b", "p"],
        "ones_in_all": ["n"],
        "carries": ["x", "y"],
        "is_sum": ["x", "y", "z", "c"],
    },
    "farbits.signed": {
        "signed": ["x"],
        "weight": ["x"],
        "signed_sum": ["terms"],
    },
    "farbits.rests": {
        "rest": ["x", "m"],
        "divides": ["m", "x"],
        "last_digits": ["x", "n"],
        "periods": ["m"],
        "is_levels": ["m", "levels"],
        "rest_by": ["x", "levels"],
    },
    "farbits.covers": {
        "cover_count": ["start", "stop"],
        "cover_block": ["start", "stop", "k"],
        "cover_at": ["start", "stop", "address"],
        "cover_level": ["start", "stop", "order"],
    },
    "farbits.identities": {
        "holds": ["claim", "*", "from_zero=()"],
        "counterexample": ["claim", "*", "from_zero=()"],
        "conjunctions": ["expression"],
    },
}

GAP = ["*", "level=0", "above=0"]

# For each class: its arguments, and what it defines itself.
CLASSES = {
    "farbits.far": {
        "Far": (["value=0"], {
            "power": (staticmethod, ["p"]),
            "run": (staticmethod, ["start", "stop"]),
            "read": (classmethod, ["text", "values=None"]),
            "form": (property, []),
            "sign": (property, []),
            "size": (property, []),
            "height": (property, []),
            "length": (property, []),
            "low": (property, []),
            "turns": (None, []),
            "whole": (None, []),
        }),
    },
    "farbits.places": {
        "Places": (["bits=0"], {
            "of": (classmethod, ["ranges"]),
            "ranges": (None, []),
            "how_many": (None, []),
            "below": (None, ["place"]),
            "kth": (None, ["k"]),
            "widest": (None, []),
            "gap": (None, ["size", *GAP]),
            "pages": (None, ["level"]),
            "whole_pages": (None, ["level"]),
        }),
    },
    "farbits.maps": {
        "Map": (["pieces=()"], {
            "shift": (classmethod, ["places", "by"]),
            "domain": (None, []),
            "image": (None, []),
            "twice": (None, []),
            "rising": (None, []),
            "fixed": (None, []),
            "__call__": (None, ["places"]),
        }),
    },
    "farbits.books": {
        "Book": (["limit"], {
            "take": (None, ["name", "size", *GAP]),
            "give": (None, ["name"]),
            "resize": (None, ["name", "size"]),
            "move": (None, ["name", *GAP]),
            "pack": (None, ["*", "level=0"]),
            "keep": (None, ["start", "stop"]),
            "unkeep": (None, ["start", "stop"]),
            "rooms": (None, []),
            "taken": (None, []),
            "kept": (None, []),
            "unused": (None, []),
            "who": (None, ["address"]),
            "best": (None, GAP),
            "undo": (None, []),
            "undoable": (None, []),
            "attempt": (None, ["action"]),
            "explore": (None, ["action"]),
        }),
    },
    "farbits.buddies": {
        "Buddies": (["top"], {
            "take": (None, ["name", "order"]),
            "give": (None, ["name"]),
            "guard": (None, ["order", "many=1"]),
            "undo": (None, []),
            "attempt": (None, ["action"]),
            "copied": (None, []),
            "names": (None, []),
            "guards": (None, []),
            "who": (None, ["address"]),
            "free_ranges": (None, []),
            "free_cells": (None, []),
            "fits": (None, ["order"]),
            "free_count": (None, ["order"]),
            "free_blocks": (None, []),
            "free_block": (None, ["k"]),
            "greatest": (None, []),
            "would": (None, ["order"]),
            "halvings": (None, ["order"]),
            "halved": (None, ["order", "j"]),
            "joinings": (None, ["name"]),
            "joined": (None, ["name", "j"]),
        }),
    },
    "farbits.stores": {
        "Store": (["values=None"], {
            "names": (None, []),
            "table": (None, []),
            "drop": (None, ["name"]),
            "copied": (None, []),
            "undo": (None, []),
            "undoable": (None, []),
            "attempt": (None, ["action"]),
            "explore": (None, ["action"]),
        }),
    },
    "farbits.programs": {
        "Program": (["text"], {
            "__call__": (None, ["store"]),
            "folded": (None, []),
            "assigned": (None, []),
        }),
    },
    "farbits.desks": {
        "Desk": (["limit"], {
            "answer": (None, ["line"]),
            "answers": (None, ["lines"]),
        }),
    },
}

# What each class defines of the operators, questions in brackets and texts.
SIGNS = {
    "farbits.far.Far": """
        eq lt le gt ge add radd sub rsub mul rmul floordiv rfloordiv pow lshift rlshift rshift
        rrshift and rand or ror xor rxor neg pos invert abs bool getitem str
    """,
    "farbits.places.Places": "eq le lt ge gt or and sub xor lshift rshift contains bool str",
    "farbits.maps.Map": "eq mul invert or and sub getitem call contains bool str",
    "farbits.books.Book": "getitem contains len",
    "farbits.buddies.Buddies": "getitem setitem contains len",
    "farbits.stores.Store": "getitem setitem contains len",
    "farbits.programs.Program": "call len",
}


def parameters_of(function):
    """Names of parameters with defaults; a star stands ahead of those by name only."""
    told = []
    for parameter in inspect.signature(function).parameters.values():
        if parameter.kind == parameter.KEYWORD_ONLY and "*" not in told:
            told.append("*")
        text = parameter.name
        if parameter.default is not parameter.empty:
            text += f"={parameter.default!r}"
        told.append(text)
    return told


class Interface(unittest.TestCase):
    def test_functions_stand_where_the_interface_lists_them(self):
        for module_name, functions in FUNCTIONS.items():
            module = importlib.import_module(module_name)
            for name, arguments in functions.items():
                with self.subTest(function=name):
                    function = getattr(module, name)
                    self.assertTrue(inspect.isfunction(function))
                    self.assertEqual(function.__module__, module_name)
                    self.assertEqual(parameters_of(function), arguments)

    def test_classes_define_what_the_interface_lists(self):
        for module_name, classes in CLASSES.items():
            module = importlib.import_module(module_name)
            for name, (arguments, members) in classes.items():
                found = getattr(module, name)
                self.assertTrue(inspect.isclass(found))
                self.assertEqual(found.__module__, module_name)
                self.assertEqual(parameters_of(found), arguments)
                for member, (kind, told) in members.items():
                    with self.subTest(owner=name, member=member):
                        self.check_member(vars(found)[member], kind, told)

    def test_classes_define_their_operators(self):
        for owner, text in SIGNS.items():
            module_name, _, name = owner.rpartition(".")
            found = getattr(importlib.import_module(module_name), name)
            for sign in text.split():
                with self.subTest(owner=name, sign=sign):
                    self.assertIn(f"__{sign}__", vars(found))

    def test_attributes_are_set_when_an_object_is_created(self):
        from farbits.books import Book
        from farbits.buddies import Buddies
        from farbits.desks import Desk
        from farbits.far import Far
        from farbits.maps import Map
        from farbits.places import Places
        for owner, name, kind in [(Places(5), "bits", Far), (Map(), "pieces", tuple), (Book(5), "limit", Far),
                                  (Buddies(5), "top", Far), (Desk(5), "book", Book)]:
            self.assertIs(type(vars(owner)[name]), kind)

    def check_member(self, member, kind, told):
        if kind is property:
            self.assertIsInstance(member, property)
            self.assertIsNone(member.fset)
        elif kind is None:
            self.assertTrue(inspect.isfunction(member))
            self.assertEqual(parameters_of(member)[1:], told)
        else:
            self.assertIsInstance(member, kind)
            skipped = 1 if kind is classmethod else 0
            self.assertEqual(parameters_of(member.__func__)[skipped:], told)

    def test_arguments_may_be_passed_by_name(self):
        from farbits import forms, products
        self.assertIs(forms.is_form(value=5), True)
        self.assertEqual(forms.size_of(x=(64, 65)), 3)
        self.assertEqual(forms.form_of(turns=[1, 3]), 6)
        self.assertEqual(forms.order_of(y=1, x=2), 1)
        self.assertEqual(forms.bit_of(p=1, x=2), 1)
        self.assertEqual(forms.subtract(y=1, x=5), 4)
        self.assertEqual(products.shift_left(s=3, x=5), 40)
        self.assertEqual(products.shift_right(s=3, x=45), 5)
        self.assertEqual(products.divide(y=8, x=45), 5)
        self.assertEqual(products.multiply(y=8, x=5), 40)
        self.assertEqual(products.power(n=3, x=5), 125)


if __name__ == "__main__":
    unittest.main()
