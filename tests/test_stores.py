"""[56]: stores of numbers."""

import unittest

from farbits import errors
from farbits.errors import InvalidName, NotANumber, NothingToUndo, UnknownName
from farbits.far import Far
from farbits.programs import Program
from farbits.stores import Store
from tests import model
from tests.cases import NO_NAMES, NO_NUMBERS, WIDE, WIDE_SIZE, Case
from tests.plain_book import Refused

NAMES = ["a", "b", "x", "abcdefgh"]
NUMBERS = [0, 1, -1, 2**64, -2**70, Far.power(2**70), Far(5), -Far.power(Far.power(2**70)) + 3]


class StoreCase(Case):
    def refused(self, store, error, fields, function, *arguments, **named):
        """An error, and the store stays as it was."""
        before = (store.table(), store.undoable())
        self.raises_same(error, fields, function, *arguments, **named)
        self.assertEqual((store.table(), store.undoable()), before)

    def holds(self, store, table):
        self.assertEqual(store.names(), sorted(table))
        self.assertEqual(len(store), len(table))
        self.assertIs(type(store.table()), dict)
        self.assertEqual(store.table(), table)
        for name in table:
            self.gives(store.table()[name], table[name])
            self.gives(store[name], table[name])
            self.assertIs(name in store, True)


class Making(StoreCase):
    def test_values(self):
        for store in [Store(), Store(None), Store(values=None), Store({})]:
            self.holds(store, {})
            self.assertEqual(store.undoable(), 0)
            self.raises(NothingToUndo, {}, store.undo)
        values = {name: number for name, number in zip(reversed(NAMES), NUMBERS)}
        self.holds(Store(values=values), values)
        values = {"x": 5}
        store = Store(values)
        values["x"] = 6
        values["y"] = 7
        self.holds(store, {"x": 5})
        store["x"] = 9
        self.assertEqual(values, {"x": 6, "y": 7})
        store.table()["x"] = 3
        store.table().clear()
        store.names().clear()
        self.holds(store, {"x": 9})

    def test_wrong_values(self):
        for name in [None, True, 5, "", "A", "abcdefghi", "repeat", "if", "else", "end", ("a",), "a b"]:
            self.raises_same(InvalidName, {"name": name}, Store, {"a": None, name: 5, "b": WIDE})
        for value in NO_NUMBERS:
            self.raises_same(NotANumber, {"value": value}, Store, {"z": None, "c": WIDE, "b": value, "a": 1})
        self.too_large(WIDE_SIZE, 1, Store, {"z": None, "a": 1, "b": WIDE})
        self.too_large(WIDE_SIZE, 1, Store, {"b": None, "a": WIDE})


class Changes(StoreCase):
    def test_settings(self):
        store = Store({"x": 1})
        for name in NAMES:
            for number in NUMBERS:
                store[name] = number
                self.gives(store[name], number)
        for name in NO_NAMES:
            self.refused(store, InvalidName, {"name": name}, store.__setitem__, name, None)
        for value in NO_NUMBERS:
            self.refused(store, NotANumber, {"value": value}, store.__setitem__, "x", value)
            self.refused(store, NotANumber, {"value": value}, store.__setitem__, "new", value)
        self.too_large(WIDE_SIZE, 1, store.__setitem__, "x", WIDE)
        self.assertEqual(store.undoable(), len(NAMES) * len(NUMBERS))

    def test_unknown_names(self):
        store = Store({"x": 1})
        for name in [*NO_NAMES, "y", "xx"]:
            self.refused(store, UnknownName, {"name": name}, store.__getitem__, name)
            self.refused(store, UnknownName, {"name": name}, store.drop, name)
            self.assertIs(name in store, False)
        self.assertIsNone(store.drop(name="x"))
        self.refused(store, UnknownName, {"name": "x"}, store.drop, "x")
        self.holds(store, {})

    def test_changes_count_also_if_nothing_changes(self):
        store = Store({"x": 1})
        store["x"] = 1
        Program("")(store)
        Program("x = x")(store)
        store.drop("x")
        self.assertEqual(store.undoable(), 4)
        self.assertIs(type(store.undoable()), int)
        for left in [3, 2, 1, 0]:
            self.assertIsNone(store.undo())
            self.assertEqual(store.undoable(), left)
            self.holds(store, {"x": 1})
        self.refused(store, NothingToUndo, {}, store.undo)

    def test_copies(self):
        store = Store({"x": 1})
        store["y"] = 2**70
        copy = store.copied()
        self.assertIs(type(copy), Store)
        self.holds(copy, {"x": 1, "y": 2**70})
        self.assertEqual((copy.undoable(), store.undoable()), (0, 1))
        self.refused(copy, NothingToUndo, {}, copy.undo)
        copy["x"] = 7
        store.drop("y")
        self.holds(copy, {"x": 7, "y": 2**70})
        self.holds(store, {"x": 1})
        self.assertIs(copy == store, False)

    def test_kinds(self):
        store = Store({"x": 1})
        for values in [iter, list, tuple, dict]:
            with self.assertRaises(TypeError):
                values(store)


class Attempts(StoreCase):
    def test_ends(self):
        store = Store({"x": 1})
        store["x"] = 2

        def changes(same):
            self.assertIs(same, store)
            same.undo()
            same["y"] = 5
            same.drop("x")
            return "told"

        for error in [UnknownName, KeyError, KeyboardInterrupt]:
            def fails(same):
                changes(same)
                raise error("x")
            for method in [store.attempt, store.explore]:
                with self.assertRaises(error):
                    method(fails)
                self.holds(store, {"x": 2})
                self.assertEqual(store.undoable(), 1)
        self.assertEqual(store.explore(action=changes), "told")
        self.holds(store, {"x": 2})
        self.assertEqual(store.undoable(), 1)
        self.assertEqual(store.attempt(action=changes), "told")
        self.holds(store, {"y": 5})
        self.assertEqual(store.undoable(), 2)
        store.undo()
        store.undo()
        self.holds(store, {"x": 1})

    def test_a_program_that_stops_within(self):
        store = Store({"x": 1})

        def action(same):
            same["x"] = 5
            with self.assertRaises(errors.Stopped):
                Program("x = 7\nx = y")(same)
            self.holds(same, {"x": 5})
            Program("x += 1")(same)
            return same["x"]

        self.gives(store.explore(action), 6)
        self.holds(store, {"x": 1})
        self.gives(store.attempt(action), 6)
        self.assertEqual(store.undoable(), 2)


class PlainStore:
    """A dict and the dicts before each change."""

    def __init__(self, table):
        self.table = table
        self.past = []

    def change(self, table):
        self.past = [*self.past, self.table]
        self.table = table

    def set(self, name, number):
        self.change({**self.table, name: number})

    def drop(self, name):
        if name not in self.table:
            raise Refused("UnknownName", name=name)
        self.change({other: self.table[other] for other in self.table if other != name})

    def double(self, name):
        if name not in self.table:
            raise Refused("Stopped", line=1)
        self.change({**self.table, name: 2 * self.table[name]})

    def undo(self):
        if not self.past:
            raise Refused("NothingToUndo")
        self.table, self.past = self.past[-1], self.past[:-1]


class Drawn(StoreCase):
    def do(self, source, store, plain):
        name, number = source.choice(NAMES), source.choice(NUMBERS)
        kind = source.choice(["set", "set", "drop", "undo", "double"])
        arguments = {"set": (name, number), "drop": (name,), "undo": (), "double": (name,)}[kind]
        function = {"set": store.__setitem__, "drop": store.drop, "undo": store.undo,
                    "double": lambda name: Program(f"{name} *= 2")(store)}[kind]
        try:
            getattr(plain, kind)(*arguments)
        except Refused as e:
            with self.assertRaises(getattr(errors, e.error)) as caught:
                function(*arguments)
            self.assertEqual(vars(caught.exception), e.fields)
        else:
            function(*arguments)

    def play(self, source, store, plain, depth):
        for _ in range(source.randrange(1, 9)):
            if depth < 4 and source.random() < 0.2:
                before = (plain.table, plain.past)
                method = source.choice(["attempt", "explore"])
                end = source.choice([None, KeyError, UnknownName])

                def action(same):
                    self.play(source, same, plain, depth + 1)
                    if end:
                        raise end("end")
                if end:
                    with self.assertRaises(end):
                        getattr(store, method)(action)
                else:
                    getattr(store, method)(action)
                if end or method == "explore":
                    plain.table, plain.past = before
            else:
                self.do(source, store, plain)
            self.holds(store, plain.table)
            self.assertEqual(store.undoable(), len(plain.past))

    def test_rows_of_changes(self):
        for k in range(40):
            source = model.source_of(f"rows of changes {k}")
            table = {name: source.choice(NUMBERS) for name in NAMES if source.random() < 0.5}
            store, plain = Store(table), PlainStore(table)
            for _ in range(6):
                self.play(source, store, plain, 0)


if __name__ == "__main__":
    unittest.main()
