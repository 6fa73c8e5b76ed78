"""[64], [65], [66]: desks."""

import unittest

from farbits.books import Book
from farbits.counting import kth_one, ones_below
from farbits.desks import Desk
from farbits.errors import BadText, FarError, InvalidLine, InvalidName, InvalidRange, InvalidSize, LineFailed
from farbits.errors import NameTaken, NegativeShift, NoPlace, NoRoom, NoSuch, NotANumber, NothingToUndo, NotShort
from farbits.errors import Outside, RoomThere, TooManyRooms, UnknownName
from farbits.far import Far
from farbits.rests import rest
from tests import model
from tests.cases import NO_NAMES, NO_NUMBERS, NO_PLACES, WIDE, WIDE_SIZE, Case, ranges_of
from tests.plain_book import PlainBook, Refused
from tests.test_books import NAMES, state_of
from tests.test_maps import pieces_of


class DeskCase(Case):
    def answers(self, desk, told):
        for line, answer in told:
            with self.subTest(line=line):
                found = desk.answer(line)
                self.assertIs(type(found), str)
                self.assertEqual(found, answer)

    def refused(self, desk, line, error, fields):
        before = state_of(desk.book)
        with self.subTest(line=line):
            found = self.raises(error, fields, desk.answer, line)
            self.assertEqual(state_of(desk.book), before)
            if error is InvalidLine:
                self.assertIs(found.line, line)


class Examples(DeskCase):
    def test_examples(self):
        d = Desk(100)
        self.assertEqual(d.answers(["take: a, 2**3 + 1", "take: b, 4, 2", "who: 12", "unused"]), ["0", "12", "b", "9:12, 16:100"])
        found = self.raises(LineFailed, {"index": 1}, d.answers, ["give: a", "give: z"])
        self.assertIs(type(found.__cause__), UnknownName)
        self.assertEqual(found.__cause__.name, "z")
        self.assertEqual(d.answer("who: 0"), "a")

    def test_by_name(self):
        d = Desk(limit=100)
        self.assertIs(type(d.book), Book)
        self.gives(d.book.limit, 100)
        self.assertEqual(d.answer(line="value: 5"), "5")
        self.assertEqual(d.answers(lines=("value: 5", "rooms")), ["5", "none"])
        d.book.take("a", 5)
        self.assertEqual(d.answer("rooms"), "a 0:5")
        self.assertEqual(d.answers([]), [])

    def test_limits(self):
        for value in NO_NUMBERS:
            self.raises_same(NotANumber, {"value": value}, Desk, value)
        for value in [0, Far(0), *NO_PLACES]:
            self.raises_same(InvalidSize, {"amount": value}, Desk, value)
        self.too_large(WIDE_SIZE, 1, Desk, WIDE)


class Answers(DeskCase):
    def test_numbers(self):
        self.answers(Desk(100), [
            ("value: 2**2**70 - 5", "2**(2**70)-2**3+3"), ("value:5", "5"), ("  value  :  -(3)  ", "-3"), ("value: 2 ** 70", "2**70"),
            ("compare: 1, 2", "less"), ("compare: 2**70, 2**70", "equal"), ("compare: -1, -2**80", "greater"),
            ("bit: 5, 0", "1"), ("bit: 5, 1", "0"), ("bit: -1, 2**2**70", "1"), ("below: 13, 3", "2"), ("below: -1, 2**64", "2**64"),
            ("kth: 13, 2", "3"), ("kth: -1, 2**2**70", "2**(2**70)"), ("rest: -1, 2**64 + 1", "2**64"), ("rest: -7, 1000", "993")])
        source = model.source_of("numbers of desks")
        d = Desk(1)
        for _ in range(60):
            x = Far(model.far_form(model.random_model(source, 5, 3)))
            y = abs(Far(model.far_form(model.random_model(source, 3, 2))))
            self.answers(d, [
                (f"value: {x}", str(x)), (f"bit: {x}, {y}", str(x[y])), (f"below: {x}, {y}", str(ones_below(x, y))),
                (f"compare: {x}, {y}", "less" if x < y else "greater" if x > y else "equal"),
                (f"rest: {x}, 1009", str(rest(x, 1009)))])
            if x.sign < 0:
                self.answers(d, [(f"kth: {x}, {y}", str(kth_one(x, y)))])

    def test_deeds(self):
        self.answers(Desk(100), [
            ("rooms", "none"), ("taken", "none"), ("kept", "none"), ("unused", "0:100"), ("best", "100"), ("best: 6", "100"),
            ("best: 6, 1", "36"), ("take: a, 5", "0"), ("take: b, 3, 2", "8"), ("take: c, 3, 0, 50", "50"), ("who: 4", "a"),
            ("who: 5", "nobody"), ("where: b", "8:11"), ("rooms", "a 0:5, b 8:11, c 50:53"), ("taken", "0:5, 8:11, 50:53"),
            ("move: c", "5"), ("move: c, 3", "16"), ("move: c, 3, 17", "24"), ("resize: c, 2**3", "ok"), ("where: c", "24:32"),
            ("keep: 5, 7", "ok"), ("keep: 40, 40", "ok"), ("kept", "5:7"), ("unused", "7:8, 11:24, 32:100"), ("best: 0, 0", "68"),
            ("pack", "0:5+0, 8:11-1, 24:32-14"), ("undo", "ok"), ("pack: 3", "0:5+0, 8:11+0, 24:32-8"), ("give: a", "ok"),
            ("rooms", "b 8:11, c 16:24"), ("unkeep: 0, 6", "ok"), ("kept", "6:7"), ("give: b", "ok"), ("give: c", "ok"), ("pack", "none"),
            *[("undo", "ok")] * 15, ("rooms", "none"), ("kept", "none")])

    def test_far_addresses(self):
        self.answers(Desk(Far.power(Far.power(2**70))), [
            ("take: a, 2**70 + 1", "0"), ("take: b, 2**2**69, 2**69", "2**(2**69)"), ("where: b", "2**(2**69):2**(2**69+1)"),
            ("who: 2**2**69 * 2 - 1", "b"), ("who: 2**2**69 * 2", "nobody"), ("best: 2**70 - 1", "2**(2**(2**70))-2**(2**70-2**0)"),
            ("pack", "0:2**70+1+0, 2**(2**69):2**(2**69+1)-(2**(2**69)-2**71+2**70-2**0)")])

    def test_blanks(self):
        d = Desk(100)
        self.answers(d, [("take:a,5", "0"), ("  take  :  b  ,  5  ,  0  ", "5"), ("undo  ", "ok"), ("  rooms", "a 0:5"),
                         ("who:4", "a"), ("value:" + " " * 3993 + "7", "7"), ("where :a", "0:5")])


class Errors(DeskCase):
    def test_invalid_lines(self):
        d = Desk(100)
        d.answer("take: a, 5")
        for line in [*NO_NAMES, "unknown", "Value: 5", "value 5", "value", "value:", "value: ", "value: 5, 6", "value: 5,", "value: ,5",
                     "value: ,", ":", ": 5", ",", "undo:", "undo: ", "undo: 5", "rooms:", "rooms: a", "unused:", "taken: 1", "kept:,",
                     "undo rooms", "und o", "compare: 1", "compare: 1, 2, 3", "compare: 1,, 2", "take: a", "take: a, 1, 2, 3, 4", "take: , 5",
                     "take: a, , 3", "move:", "move: a, 1, 2, 3", "give", "give: a, b", "resize: a", "resize: a, 1, 2", "keep: 1", "unkeep",
                     "keep: 1, 2, 3", "pack:", "pack: 1, 2", "who", "who: 1, 2", "where", "where: a, b", "best:", "best: 1, 2, 3", "best: 1,",
                     "value: 5\n", "value:\t5", "\nrooms", "value: \x7f5", "value: \u00e9", "rooms\u00a0", "VALUE: 5", "take"]:
            self.refused(d, line, InvalidLine, {"line": line})
        for more in [3999, 4000, 4001, 5000]:
            line = "value: " + "7".rjust(more - 7)
            self.assertEqual(len(line), more)
            if more <= 4000:
                self.assertEqual(d.answer(line), "7")
            else:
                self.refused(d, line, InvalidLine, {"line": line})
        line = "rooms" + " " * 3996
        self.refused(d, line, InvalidLine, {"line": line})

    def test_expressions(self):
        d = Desk(100)
        d.answer("take: a, 5")
        for line, error, fields in [
                ("value:: 5", BadText, {"place": 0}), ("value: 5 : 6", BadText, {"place": 2}), ("value:   5 +  ", BadText, {"place": 3}),
                ("compare: 1, (2", BadText, {"place": 2}), ("compare: (1, 2)", BadText, {"place": 2}), ("compare: x, (", UnknownName, {"name": "x"}),
                ("value: x", UnknownName, {"name": "x"}), ("value: 1 << -1", NegativeShift, {"amount": -1}), ("take: a, x", UnknownName, {"name": "x"}),
                ("take: 5, 6, (", BadText, {"place": 1}), ("keep: 5, 4 )", BadText, {"place": 2}), ("value: repeat", BadText, {"place": 0}),
                ("take: a, 0, -1, z", UnknownName, {"name": "z"}), ("give: z y", UnknownName, {"name": "z y"}), ("pack: y", UnknownName, {"name": "y"})]:
            self.refused(d, line, error, fields)

    def test_errors_of_what_is_asked(self):
        d = Desk(100)
        d.answer("take: a, 5")
        for line, error, fields in [
                ("bit: 5, -1", NoPlace, {"place": Far(-1)}), ("below: 5, -1", NoPlace, {"place": Far(-1)}), ("kth: 5, 2", NoSuch, {"rank": Far(2)}),
                ("rest: 5, 0", NotShort, {"modulus": Far(0)}), ("take: A, 5", InvalidName, {"name": "A"}), ("take: 5, 5", InvalidName, {"name": "5"}),
                ("take: end, 5", InvalidName, {"name": "end"}), ("take: a:b, 5", InvalidName, {"name": "a:b"}), ("take: a b, 5", InvalidName, {"name": "a b"}),
                ("take: a, 0", NameTaken, {"name": "a"}), ("take: b, 0, -1", InvalidSize, {"amount": Far(0)}), ("take: b, 1, -1", NoPlace, {"place": Far(-1)}),
                ("take: b, 1, 0, -2", NoPlace, {"place": Far(-2)}), ("take: b, 2**70", NoRoom, {"name": "b", "amount": Far(2**70)}),
                ("give: b", UnknownName, {"name": "b"}), ("give: 5", UnknownName, {"name": "5"}), ("where: if", UnknownName, {"name": "if"}),
                ("move: b, -1", UnknownName, {"name": "b"}), ("move: a, 0, 96", NoRoom, {"name": "a", "amount": Far(5)}),
                ("resize: a, 101", NoRoom, {"name": "a", "amount": Far(101)}), ("resize: b, 0", UnknownName, {"name": "b"}),
                ("keep: 5, 4", InvalidRange, {"start": Far(5), "stop": Far(4)}), ("keep: 4, 5", RoomThere, {"name": "a"}),
                ("unkeep: 4, 101", Outside, {"address": Far(101)}), ("who: 100", Outside, {"address": Far(100)}), ("who: -1", NoPlace, {"place": Far(-1)}),
                ("best: -1", NoPlace, {"place": Far(-1)}), ("pack: -1", NoPlace, {"place": Far(-1)})]:
            self.refused(d, line, error, fields)
        d.answer("undo")
        self.refused(d, "undo", NothingToUndo, {})
        for k in range(40):
            d.answer(f"take: a{'abcdefghijklmnopqrstuvwxyz'[k % 26]}{'ab'[k // 26]}, 1")
        self.refused(d, "take: x, 500", TooManyRooms, {"name": "x"})

    def test_too_large(self):
        digits = str(WIDE)
        d = Desk(Far.power(5000))
        for line in [f"value: {digits}", f"take: a, {digits}", f"who: {digits}", f"compare: 1, {digits}"]:
            self.too_large(WIDE_SIZE, 1, d.answer, line)
        self.assertEqual(d.answer(f"value: {digits} & 6"), "2")


class Rows(DeskCase):
    def test_a_row_that_fails(self):
        d = Desk(100)
        d.answers(["take: a, 5", "keep: 50, 60"])
        before = state_of(d.book)
        good = ["undo", "take: b, 7", "rooms", "pack: 3", "give: b", "value: 5"]
        for at in range(len(good) + 1):
            for bad, error in [("give: z", UnknownName), (None, InvalidLine), ("value: (", BadText), ("take: x, 1000", NoRoom), ({}, InvalidLine)]:
                found = self.raises(LineFailed, {"index": at}, d.answers, [*good[:at], bad, *good[at:]])
                self.assertIs(type(found.__cause__), error)
                self.assertEqual(state_of(d.book), before)
        self.assertEqual(d.answers(good), ["ok", "5", "a 0:5, b 5:12", "0:5+0, 5:12+3", "ok", "5"])
        self.assertEqual(d.book.undoable(), 1 + 3)

    def test_within_an_attempt(self):
        d = Desk(100)
        self.assertEqual(d.book.explore(lambda book: d.answers(["take: a, 5", "take: b, 5"])), ["0", "5"])
        self.assertEqual(len(d.book), 0)

    def test_against_a_plain_book(self):
        for k in range(25):
            source = model.source_of(f"rows of lines {k}")
            d, plain = Desk(30), PlainBook(30)
            for _ in range(12):
                before = plain.state()
                lines, told = [], []
                failed = None
                for index in range(source.randrange(1, 6)):
                    line, answer = self.drawn(source, plain)
                    lines.append(line)
                    told.append(answer)
                    if isinstance(answer, Refused):
                        failed = index
                        break
                if failed is None:
                    self.assertEqual(d.answers(lines), told)
                else:
                    found = self.raises(LineFailed, {"index": failed}, d.answers, [*lines, "value: 5"])
                    self.assertIsInstance(found.__cause__, FarError)
                    self.assertEqual(type(found.__cause__).__name__, told[-1].error)
                    self.assertEqual(vars(found.__cause__), told[-1].fields)
                    plain.restore(before)
                self.assertEqual(d.book.undoable(), len(plain.past))
                self.same(d, plain)

    def same(self, d, plain):
        def text(places):
            return ", ".join(f"{start}:{stop}" for start, stop in ranges_of(places)) or "none"
        taken = {p for start, stop in plain.table.values() for p in range(start, stop)}
        rooms = [f"{name} {plain.table[name][0]}:{plain.table[name][1]}" for name in plain.names()]
        self.answers(d, [("rooms", ", ".join(rooms) or "none"), ("taken", text(taken)), ("kept", text(plain.barred)),
                         ("unused", text(set(range(30)) - taken - plain.barred)), ("best", str(plain.best(0, 0))),
                         ("best: 2, 9", str(plain.best(2, 9)))])
        for p in range(0, 30, 3):
            self.answers(d, [(f"who: {p}", plain.who(p) or "nobody")])

    def drawn(self, source, plain):
        """A line and its answer, or what refuses it."""
        name, size = source.choice(NAMES), source.choice([1, 2, 3, 5, 0])
        level, above = source.choice([0, 0, 1, 2]), source.randrange(25)
        start = source.randrange(32)
        stop = start + source.choice([-1, 0, 1, 4])
        line, method, arguments = source.choice([
            (f"take: {name}, {size}", "take", (name, size)), (f"take: {name}, 2 + {size}", "take", (name, 2 + size)),
            (f"take:{name},{size},{level}", "take", (name, size, level)),
            (f"take: {name}, {size}, {level}, {above}", "take", (name, size, level, above)), (f"give : {name}", "give", (name,)),
            (f"resize: {name}, {size}", "resize", (name, size)), (f"move: {name}", "move", (name,)),
            (f"move: {name}, {level}", "move", (name, level)), (f"move: {name}, {level}, {above}", "move", (name, level, above)),
            ("pack", "pack", ()), (f"pack: {level}", "pack", (level,)), (f"keep: {start}, {stop}", "keep", (start, stop)),
            (f"unkeep: {start}, {stop}", "unkeep", (start, stop)), ("undo", "undo", ())])
        try:
            found = getattr(plain, method)(*arguments)
        except Refused as e:
            return line, e
        if isinstance(found, dict):
            return line, ", ".join(f"{a}:{b}{'-' if by < 0 else '+'}{abs(by)}" for a, b, by in pieces_of(found)) or "none"
        return line, "ok" if found is None else str(found)


if __name__ == "__main__":
    unittest.main()
