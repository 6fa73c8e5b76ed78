"""[47], [48], [49]: address books."""

import unittest

from farbits import errors
from farbits.books import Book
from farbits.errors import FarError, InvalidName, InvalidRange, InvalidSize, NameTaken, NoPlace
from farbits.errors import NoRoom, NotANumber, NothingToUndo, Outside, RoomThere, TooManyRooms
from farbits.errors import UnknownName
from farbits.far import Far
from farbits.maps import Map
from farbits.places import Places
from tests import model
from tests.cases import NO_NAMES, NO_NUMBERS, NO_PLACES, SCALES, WIDE, WIDE_SIZE, Case, ranges_of, scaled
from tests.plain_book import PlainBook, Refused
from tests.test_maps import pieces_of

NAMES = ["a", "b", "c", "d", "room", "zzzzzzzz"]


def state_of(book):
    """All that a book tells of its state."""
    rooms = [(name, str(start), str(stop)) for name, start, stop in book.rooms()]
    return (rooms, str(book.kept()), str(book.taken()), str(book.unused()), book.undoable(), len(book))


class BookCase(Case):
    def refused(self, book, error, fields, function, *arguments, **named):
        """An error, and the book stays as it was."""
        before = state_of(book)
        self.raises(error, fields, function, *arguments, **named)
        self.assertEqual(state_of(book), before)

    def same_state(self, book, plain, factor):
        rooms = [(name, *plain.table[name]) for name in plain.names()]
        self.gives(book.rooms(), scaled(rooms, factor))
        taken = {p for start, stop in plain.table.values() for p in range(start, stop)}
        free = set(range(plain.limit)) - taken - plain.barred
        for found, places in [(book.taken(), taken), (book.kept(), plain.barred), (book.unused(), free)]:
            self.assertIs(type(found), Places)
            self.gives(found.ranges(), scaled(ranges_of(places), factor))
        self.assertEqual(book.undoable(), len(plain.past))
        self.assertIs(type(book.undoable()), int)
        self.assertEqual(len(book), len(plain.table))
        for name in NAMES:
            self.assertIs(name in book, name in plain.table)
            if name in plain.table:
                self.gives(book[name], scaled(plain.table[name], factor))


class Examples(BookCase):
    def test_example(self):
        b = Book(2**70)
        self.gives(b.take("a", 5), 0)
        self.gives(b.take("b", 2**68, level=68), 2**68)
        self.gives(b.take("c", 3), 5)
        self.assertIsNone(b.give("a"))
        self.gives(b.take("d", 4), 0)
        self.gives(b.best(), 2**69)
        self.assertIsNone(b.keep(4, 5))
        self.gives(b.unused().ranges(), [(8, 2**68), (2**69, 2**70)])
        m = b.pack()
        self.assertIs(type(m), Map)
        self.gives(m.pieces, ((0, 4, 0), (5, 8, 0), (2**68, 2**69, 8 - 2**68)))

    def test_by_name(self):
        b = Book(limit=100)
        self.gives(b.limit, 100)
        self.gives(b.take(name="a", size=5, above=3, level=1), 4)
        self.assertIsNone(b.resize(name="a", size=6))
        self.gives(b.move(name="a", above=1, level=3), 8)
        self.gives(b.pack(level=1).pieces, ((8, 14, -8),))
        self.assertIsNone(b.keep(start=6, stop=9))
        self.assertIsNone(b.unkeep(start=7, stop=20))
        self.assertEqual(b.who(address=5), "a")
        self.gives(b.best(level=0, above=0), 93)
        self.assertIsNone(b.give(name="a"))
        self.assertEqual(b.attempt(action=lambda book: 5), 5)
        self.assertEqual(b.explore(action=lambda book: 5), 5)
        for function in [b.take, b.move]:
            with self.assertRaises(TypeError):
                function("a", 1, 2, 3)
        with self.assertRaises(TypeError):
            b.pack(1)
        with self.assertRaises(TypeError):
            b.best(1)

    def test_a_limit_of_one(self):
        b = Book(1)
        self.gives(b.best(), 1)
        self.gives(b.best(above=1), 0)
        self.gives(b.best(level=2**70), 1)
        self.refused(b, NoRoom, {"name": "a", "amount": 2}, b.take, "a", 2)
        self.refused(b, NoRoom, {"name": "a", "amount": 1}, b.take, "a", 1, above=1)
        self.gives(b.take("a", 1, level=Far.power(2**70)), 0)
        self.refused(b, NoRoom, {"name": "b", "amount": 1}, b.take, "b", 1)
        self.refused(b, NoRoom, {"name": "a", "amount": 2}, b.resize, "a", 2)
        self.refused(b, RoomThere, {"name": "a"}, b.keep, 0, 1)
        self.assertEqual(b.who(0), "a")
        self.refused(b, Outside, {"address": 1}, b.who, 1)
        self.gives(b.unused().bits, 0)
        b.give("a")
        b.keep(0, 1)
        self.gives(b.best(), 0)
        self.refused(b, NoRoom, {"name": "b", "amount": 1}, b.take, "b", 1)

    def test_attributes(self):
        for limit in [1, Far(1), 2**70, Far.power(2**70)]:
            b = Book(limit)
            self.gives(b.limit, limit)
            self.assertEqual((len(b), b.rooms(), b.undoable()), (0, [], 0))
            self.gives(b.unused().ranges(), [(0, limit)])
            self.gives(b.kept().bits, 0)


class Edges(BookCase):
    def test_sizes_that_just_fit(self):
        for factor, power in SCALES:
            b = Book(20 * factor)
            b.take("a", 4 * factor)
            b.take("b", 3 * factor, above=9 * factor)
            b.keep(15 * factor, 16 * factor)
            self.gives(b.best(), 5 * factor)
            self.gives(b.best(level=power + 3), 4 * factor)
            self.gives(b.best(level=power + 4), 4 * factor)
            self.gives(b.best(level=power + 5), 0)
            self.gives(b.best(above=5 * factor), 4 * factor)
            self.gives(b.best(above=17 * factor), 3 * factor)
            self.gives(b.best(above=20 * factor), 0)
            self.gives(b.best(above=Far.power(Far.power(2**71))), 0)
            self.refused(b, NoRoom, {"name": "c", "amount": 5 * factor + 1}, b.take, "c", 5 * factor + 1)
            self.refused(b, NoRoom, {"name": "c", "amount": Far(4 * factor + 1)}, b.take, "c", Far(4 * factor + 1),
                         level=power + 4)
            self.gives(b.explore(lambda book: book.take("c", 4 * factor, level=power + 4)), 16 * factor)
            self.gives(b.take("c", 5 * factor), 4 * factor)
            self.refused(b, NoRoom, {"name": "b", "amount": 3 * factor + 4 * factor}, b.resize, "b", 7 * factor)
            b.resize("b", 6 * factor)
            self.gives(b["b"], (9 * factor, 15 * factor))
            self.refused(b, NoRoom, {"name": "b", "amount": Far(6 * factor)}, b.move, "b", above=10 * factor)
            self.gives(b.move("b", above=0), 9 * factor)
            self.gives(b.best(), 4 * factor)

    def test_kept_addresses(self):
        b = Book(100)
        b.keep(10, 20)
        b.keep(15, 25)
        b.keep(30, 30)
        b.keep(100, 100)
        self.gives(b.kept().ranges(), [(10, 25)])
        b.unkeep(12, 14)
        b.unkeep(0, 5)
        b.unkeep(24, 100)
        self.gives(b.kept().ranges(), [(10, 12), (14, 24)])
        self.gives(b.take("a", 3, above=9), 24)
        self.gives(b.take("b", 2, above=9), 12)
        self.gives(b.take("c", 10), 0)
        for start, stop, name in [(9, 10, "c"), (0, 100, "c"), (10, 13, "b"), (13, 14, "b"), (13, 99, "b"), (26, 27, "a")]:
            self.refused(b, RoomThere, {"name": name}, b.keep, start, stop)
        for place in [0, 5, 12, 14, 100]:
            self.assertIsNone(b.keep(place, place))
        b.keep(10, 12)
        b.keep(27, 100)
        self.gives(b.unused().bits, 0)
        self.gives(b.best(), 0)
        for stop in [101, Far(101), Far.power(2**70)]:
            for function in [b.keep, b.unkeep]:
                self.refused(b, Outside, {"address": stop}, function, 99, stop)
                self.refused(b, Outside, {"address": stop}, function, stop, stop)

    def test_packing(self):
        b = Book(100)
        self.assertEqual(b.pack().pieces, ())
        self.assertEqual(b.undoable(), 1)
        b.keep(3, 5)
        b.keep(12, 13)
        for name, size, above in [("a", 2, 20), ("b", 4, 30), ("c", 1, 40), ("d", 5, 50), ("e", 1, 60)]:
            b.take(name, size, above=above)
        moved = b.pack()
        self.gives(b.rooms(), [("a", 0, 2), ("b", 5, 9), ("c", 9, 10), ("d", 13, 18), ("e", 18, 19)])
        self.gives(moved.pieces, ((20, 22, -20), (30, 34, -25), (40, 41, -31), (50, 55, -37), (60, 61, -42)))
        self.gives(b.pack().pieces, ((0, 2, 0), (5, 10, 0), (13, 19, 0)))
        self.gives(b.pack(level=2).pieces, ((0, 2, 0), (5, 9, 3), (9, 10, 7), (13, 18, 7), (18, 19, 10)))
        self.gives(b.rooms(), [("a", 0, 2), ("b", 8, 12), ("c", 16, 17), ("d", 20, 25), ("e", 28, 29)])
        self.refused(b, NoRoom, {"name": "d", "amount": Far(5)}, b.pack, level=5)
        self.refused(b, NoRoom, {"name": "b", "amount": Far(4)}, b.pack, level=2**70)
        b.pack(level=4)
        self.gives(b.rooms()[-1], ("e", 64, 65))

    def test_forty_rooms(self):
        names = ["r" + letter for letter in "abcdefghijklmnopqrstuvwxyz"] + ["s" + letter for letter in "abcdefghijklmn"]
        b = Book(1000)
        for k, name in enumerate(names):
            self.gives(b.take(name, 2), 2 * k)
        self.assertEqual(len(b), 40)
        self.refused(b, TooManyRooms, {"name": "x"}, b.take, "x", 2000)
        self.refused(b, NameTaken, {"name": "ra"}, b.take, "ra", 2)
        self.refused(b, InvalidSize, {"amount": 0}, b.take, "x", 0)
        self.refused(b, NoPlace, {"place": -1}, b.take, "x", 1, above=-1)
        self.gives(b.best(), 920)
        self.assertEqual(len(b.pack().pieces), 1)
        b.give("ra")
        self.gives(b.take("x", 2), 0)

    def test_far_books(self):
        p, q = Far.power(2**70), Far.power(Far.power(2**70))
        b = Book(Far.power(q))
        self.gives(b.take("a", p + 5), 0)
        self.gives(b.take("b", 3, level=2**70), 2 * p)
        self.gives(b.take("c", q, above=7), 2 * p + 3)
        self.gives(b.take("d", 1, level=q - 1, above=1), Far.power(q - 1))
        self.gives(b.take("e", p - 5), p + 5)
        self.gives(b.best(), Far.power(q - 1) - 1)
        for address, name in [(0, "a"), (p + 4, "a"), (p + 5, "e"), (2 * p, "b"), (2 * p + 2, "b"), (2 * p + 3, "c"),
                              (2 * p + 2 + q, "c"), (2 * p + 3 + q, None), (Far.power(q - 1), "d")]:
            self.assertEqual(b.who(address), name)
        self.refused(b, Outside, {"address": Far.power(q)}, b.who, Far.power(q))
        b.keep(q * 5, Far.power(q - 1))
        self.gives(b.move("c", above=p), 2 * p + 3)
        b.give("e")
        self.gives(b.move("b"), p + 5)
        self.gives(b.move("c"), p + 8)
        self.gives(b.pack().pieces[-1], (Far.power(q - 1), Far.power(q - 1) + 1, q + p + 8 - Far.power(q - 1)))

    def test_results_are_judged(self):
        self.too_large(WIDE_SIZE, 1, Book, WIDE)
        b = Book(Far.power(5000))
        before = state_of(b)
        self.too_large(WIDE_SIZE, 1, b.take, "a", WIDE)
        b.keep(0, WIDE)
        self.too_large(WIDE_SIZE, 1, b.take, "a", 1)
        self.gives(b.take("a", 1, level=4000), 2**4000)
        self.too_large(model.size(model.form(2**4000 + WIDE)), 1, b.resize, "a", WIDE)
        self.too_large(WIDE_SIZE, 1, b.move, "a")
        self.too_large(WIDE_SIZE, 1, b.pack)
        self.too_large(WIDE_SIZE + 2, 2, b.kept)
        self.assertEqual((b.undoable(), len(b)), (2, 1))
        self.gives(b["a"], (2**4000, 2**4000 + 1))
        b.undo()
        b.undo()
        self.assertEqual(state_of(b), before)
        # Kept addresses are not judged before they are told.
        for k in range(1001):
            b.keep(100 + 2 * k, 101 + 2 * k)
        self.too_large(1 + 2002, 1, b.kept)
        self.too_large(1 + 1 + 2002 + 3, 2, b.unused)
        self.gives(b.taken().bits, 0)
        self.gives(b.take("a", 2), 0)
        self.gives(b.take("b", 200), 2101)
        b.unkeep(0, 2000)
        self.assertEqual(len(b.kept().ranges()), 51)
        # The map is judged behind the rooms.
        half = int("10" * 550, 2)
        c = Book(Far.power(6000))
        c.keep(0, half << 1200)
        c.take("a", 5, level=5000)
        self.gives(c.rooms(), [("a", 2**5000, 2**5000 + 5)])
        self.gives(c.pack().pieces, ((2**5000, 2**5000 + 5, (half << 1200) - 2**5000),))


class Questions(BookCase):
    def test_in_and_len(self):
        b = Book(100)
        b.take("a", 5)
        for value in [*NO_NAMES, "b", "aa", b]:
            self.assertIs(value in b, False)
        self.assertIs("a" in b, True)
        self.assertEqual(len(b), 1)
        for values in [iter, list, tuple, dict]:
            with self.assertRaises(TypeError):
                values(b)
        self.assertIs(b == Book(100), False)
        self.assertIs(b == b, True)

    def test_lists_are_new(self):
        b = Book(100)
        b.take("a", 5)
        b.rooms().clear()
        self.gives(b.rooms(), [("a", 0, 5)])


class Errors(BookCase):
    def test_limits(self):
        for value in NO_NUMBERS:
            self.raises_same(NotANumber, {"value": value}, Book, value)
        for value in [0, Far(0), *NO_PLACES]:
            self.raises_same(InvalidSize, {"amount": value}, Book, value)

    def test_names(self):
        b = Book(100)
        b.take("a", 5)
        for value in NO_NAMES:
            self.raises_same(InvalidName, {"name": value}, b.take, value, None)
        for value in [*NO_NAMES, "b"]:
            for function in [b.give, b.move, b.__getitem__]:
                self.raises_same(UnknownName, {"name": value}, function, value)
            self.raises_same(UnknownName, {"name": value}, b.resize, value, None)
            self.raises_same(UnknownName, {"name": value}, b.move, value, level=None)
        self.raises_same(NameTaken, {"name": "a"}, b.take, "a", None)
        self.assertEqual(b.undoable(), 1)

    def test_numbers(self):
        b = Book(100)
        b.take("a", 5)
        for value in NO_NUMBERS:
            fields = {"value": value}
            self.raises_same(NotANumber, fields, b.take, "b", value, level=-1)
            self.raises_same(NotANumber, fields, b.take, "b", 500, level=value, above=-1)
            self.raises_same(NotANumber, fields, b.take, "b", 500, above=value)
            self.raises_same(NotANumber, fields, b.resize, "a", value)
            self.raises_same(NotANumber, fields, b.move, "a", level=value, above=-1)
            self.raises_same(NotANumber, fields, b.move, "a", above=value)
            self.raises_same(NotANumber, fields, b.pack, level=value)
            self.raises_same(NotANumber, fields, b.best, level=value, above=-1)
            self.raises_same(NotANumber, fields, b.best, above=value)
            self.raises_same(NotANumber, fields, b.who, value)
            for function in [b.keep, b.unkeep]:
                self.raises_same(NotANumber, fields, function, value, None)
                self.raises_same(NotANumber, fields, function, -1, value)
        for value in NO_PLACES:
            fields = {"place": value}
            self.raises_same(NoPlace, fields, b.take, "b", 500, level=value, above=None)
            self.raises_same(NoPlace, fields, b.take, "b", 500, above=value)
            self.raises_same(NoPlace, fields, b.move, "a", level=value, above=None)
            self.raises_same(NoPlace, fields, b.move, "a", above=value)
            self.raises_same(NoPlace, fields, b.pack, level=value)
            self.raises_same(NoPlace, fields, b.best, level=value, above=None)
            self.raises_same(NoPlace, fields, b.best, above=value)
            self.raises_same(NoPlace, fields, b.who, value)
            for function in [b.keep, b.unkeep]:
                self.raises_same(InvalidRange, {"start": value, "stop": 500}, function, value, 500)
        for value in [0, Far(0), *NO_PLACES]:
            self.raises_same(InvalidSize, {"amount": value}, b.take, "b", value, level=None)
            self.raises_same(InvalidSize, {"amount": value}, b.resize, "a", value)
        for start, stop in [(5, 4), (Far(500), Far(499))]:
            for function in [b.keep, b.unkeep]:
                self.raises_same(InvalidRange, {"start": start, "stop": stop}, function, start, stop)
        for value in [100, Far(100), 2**70, Far.power(2**70)]:
            self.raises_same(Outside, {"address": value}, b.who, value)
        for value in [101, Far(101), Far.power(2**70)]:
            self.raises_same(Outside, {"address": value}, b.keep, 0, value)
            self.raises_same(NoRoom, {"name": "b", "amount": value}, b.take, "b", value)
            self.raises_same(NoRoom, {"name": "a", "amount": value}, b.resize, "a", value)
        self.assertEqual(b.undoable(), 1)

    def test_undo(self):
        b = Book(100)
        self.refused(b, NothingToUndo, {}, b.undo)
        b.take("a", 5)
        b.resize("a", 5)
        b.move("a")
        b.pack()
        b.keep(9, 9)
        b.unkeep(0, 100)
        self.assertEqual(b.undoable(), 6)
        for left in range(5, -1, -1):
            self.assertIsNone(b.undo())
            self.assertEqual(b.undoable(), left)
            self.assertEqual("a" in b, left > 0)
        self.refused(b, NothingToUndo, {}, b.undo)


class Attempts(BookCase):
    def test_the_very_book(self):
        b = Book(100)
        for method in [b.attempt, b.explore]:
            seen = []
            self.assertEqual(method(lambda book: seen.append(book) or "told"), "told")
            self.assertIs(seen[0], b)

    def test_ends(self):
        b = Book(100)
        b.take("a", 5)
        b.take("b", 6)
        before = state_of(b)

        def deeds(book):
            book.undo()
            book.undo()
            book.take("c", 7)
            book.keep(50, 60)

        for error in [UnknownName, KeyError, ZeroDivisionError, KeyboardInterrupt, Exception]:
            def fails(book):
                deeds(book)
                raise error("x")
            for method in [b.attempt, b.explore]:
                with self.assertRaises(error):
                    method(fails)
                self.assertEqual(state_of(b), before)
        b.explore(deeds)
        self.assertEqual(state_of(b), before)
        b.attempt(deeds)
        self.gives(b.rooms(), [("c", 0, 7)])
        self.assertEqual(b.undoable(), 2)
        b.undo()
        b.undo()
        self.refused(b, NothingToUndo, {}, b.undo)

    def test_nested(self):
        b = Book(100)
        b.take("a", 5)

        def inner(book):
            book.take("c", 1)
            raise KeyError("inner")

        def outer(book):
            book.take("b", 5)
            with self.assertRaises(KeyError):
                book.attempt(inner)
            self.assertEqual([name for name, _, _ in book.rooms()], ["a", "b"])
            book.explore(lambda same: same.give("a"))
            self.assertIn("a", book)
            book.attempt(lambda same: same.give("a"))
            return book.rooms()

        self.gives(b.explore(outer), [("b", 5, 10)])
        self.gives(b.rooms(), [("a", 0, 5)])
        self.gives(b.attempt(outer), [("b", 5, 10)])
        self.assertEqual(b.undoable(), 3)


class DrawnDeeds(BookCase):
    """A book and a plain book do the same deeds."""

    def deed(self, source, plain):
        """The name of a method, its small arguments, and its level, or None."""
        name = source.choice(NAMES)
        size = source.choice([0, 1, 1, 2, 3, 5, 8])
        level = source.choice([0, 0, 0, 1, 2, 3])
        above = source.choice([0, 0, source.randrange(plain.limit + 4)])
        start = source.randrange(plain.limit + 2)
        stop = start + source.choice([-1, 0, 1, 2, 5, 9])
        return source.choice([
            ("take", (name, size), level, above), ("take", (name, size), level, above),
            ("take", (name, size), 0, 0), ("give", (name,), None, None), ("resize", (name, size), None, None),
            ("move", (name,), level, above), ("pack", (), level, None), ("keep", (start, stop), None, None),
            ("unkeep", (start, stop), None, None), ("undo", (), None, None), ("undo", (), None, None)])

    def do(self, source, book, plain, factor, power):
        method, arguments, level, above = self.deed(source, plain)
        named = {}
        given = {}
        if level is not None:
            named["level"], given["level"] = level, power + level
        if above is not None:
            named["above"], given["above"] = above, above * factor
        passed = [source.choice([one, Far(one)]) if not isinstance(one, str) else one
                  for one in scaled(list(arguments), factor)]
        try:
            expected = getattr(plain, method)(*arguments, **named)
        except Refused as e:
            fields = {field: value if isinstance(value, str) else value * factor for field, value in e.fields.items()}
            with self.assertRaises(getattr(errors, e.error)) as caught:
                getattr(book, method)(*passed, **given)
            self.assertEqual(vars(caught.exception), fields)
        else:
            found = getattr(book, method)(*passed, **given)
            if method == "pack":
                self.gives(found.pieces, scaled(pieces_of(expected), factor))
            else:
                self.gives(found, None if expected is None else expected * factor)

    def play(self, source, book, plain, factor, power, depth):
        for _ in range(source.randrange(1, 9)):
            if depth < 4 and source.random() < 0.15:
                self.nested(source, book, plain, factor, power, depth)
            else:
                self.do(source, book, plain, factor, power)
            self.same_state(book, plain, factor)

    def nested(self, source, book, plain, factor, power, depth):
        before = plain.state()
        method = source.choice(["attempt", "explore"])
        end = source.choice([None, None, KeyError, UnknownName])

        def action(same):
            self.assertIs(same, book)
            self.play(source, book, plain, factor, power, depth + 1)
            if end:
                raise end("end")
            return 7

        if end:
            with self.assertRaises(end):
                getattr(book, method)(action)
        else:
            self.assertEqual(getattr(book, method)(action), 7)
        if end or method == "explore":
            plain.restore(before)

    def test_rows_of_deeds(self):
        for k in range(40):
            source = model.source_of(f"rows of deeds {k}")
            factor, power = SCALES[k % len(SCALES)]
            limit = source.choice([1, 7, 16, 30, 45])
            book, plain = Book(limit * factor), PlainBook(limit)
            for _ in range(5):
                self.play(source, book, plain, factor, power, 0)
            for address in range(limit):
                self.assertEqual(book.who(address * factor), plain.who(address))
                self.assertEqual(book.who((address + 1) * factor - 1), plain.who(address))
            for level in range(4):
                above = source.randrange(limit + 2)
                self.gives(book.best(level=power + level, above=above * factor), plain.best(level, above) * factor)

    def test_all_is_taken_back(self):
        for k in range(10):
            source = model.source_of(f"all deeds {k}")
            book, plain = Book(40), PlainBook(40)
            fresh = state_of(book)
            for _ in range(40):
                self.do(source, book, plain, 1, 0)
            while book.undoable():
                book.undo()
            self.assertEqual(state_of(book), fresh)
            with self.assertRaises(FarError):
                book.undo()


if __name__ == "__main__":
    unittest.main()
