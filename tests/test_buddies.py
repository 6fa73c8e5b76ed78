"""[51], [52], [53], [54]: rooms that halve and join free blocks."""

import unittest

from farbits import errors
from farbits.buddies import Buddies
from farbits.covers import cover_block, cover_count, cover_level
from farbits.errors import Guarded, InvalidName, NameTaken, NoBlock, NoBuddy, NoPlace, NotANumber
from farbits.errors import NothingToUndo, Outside, UnknownName
from farbits.far import Far
from tests import model
from tests.cases import NO_NAMES, NO_NUMBERS, NO_PLACES, SCALES, WIDE, WIDE_SIZE, Case, ranges_of, scaled
from tests.plain_book import Refused
from tests.plain_room import PlainRoom

NAMES = ["a", "b", "c", "d", "e", "room", "zzzzzzzz"]


def state_of(room):
    """All that a room tells of its state."""
    blocks = [(name, str(room[name][0]), str(room[name][1])) for name in room.names()]
    free = [(str(start), str(stop)) for start, stop in room.free_ranges()]
    return (blocks, free, [(str(order), str(many)) for order, many in room.guards()])


def undoable(room):
    """How many deeds a copy can take back."""
    copy = room.copied()
    many = 0
    while True:
        try:
            copy.undo()
        except NothingToUndo:
            return many
        many += 1


class RoomCase(Case):
    def refused(self, room, error, fields, function, *arguments, **named):
        """An error, and the room stays as it was."""
        before = (state_of(room), undoable(room))
        self.raises(error, fields, function, *arguments, **named)
        self.assertEqual((state_of(room), undoable(room)), before)


class Examples(RoomCase):
    def test_examples(self):
        r = Buddies(4)
        self.gives(r.take("a", 1), (0, 2))
        self.gives(r.take("b", 0), (2, 3))
        self.gives(r.take("c", 2), (4, 8))
        self.gives(r.free_ranges(), [(3, 4), (8, 16)])
        self.gives(r.halvings(1), 2)
        self.gives(r.halved(1, 0), (12, 16))
        self.gives(r.would(1), (8, 10))
        self.gives(r.give("a"), (0, 2))
        self.gives(r.joinings("b"), 2)
        self.gives(r.joined("b", 0), (2, 4))
        self.gives(r.give("b"), (0, 4))
        r = Buddies(2**70)
        self.gives(r.take("a", 0), (0, 1))
        self.gives(r.free_blocks(), 2**70)

    def test_by_name(self):
        r = Buddies(top=4)
        self.gives(r.top, 4)
        self.gives(r.take(order=1, name="a"), (0, 2))
        self.assertIsNone(r.guard(many=1, order=3))
        self.assertIsNone(r.guard(order=2))
        self.assertEqual(r.who(address=1), "a")
        self.gives(r.fits(order=1), 7)
        self.assertEqual(r.free_count(order=1), 1)
        self.gives(r.free_block(k=0), (2, 4))
        self.gives(r.would(order=1), (2, 4))
        self.gives(r.halvings(order=0), 1)
        self.gives(r.halved(j=0, order=0), (3, 4))
        self.gives(r.joinings(name="a"), 3)
        self.gives(r.joined(j=2, name="a"), (0, 16))
        self.assertEqual(r.attempt(action=lambda room: 5), 5)
        self.gives(r.give(name="a"), (0, 16))

    def test_a_new_room(self):
        for top in [0, 1, 5, 2**64, Far.power(2**70), Far(model.tower(4)) + 5]:
            for r in [Buddies(top), Buddies(Far(top))]:
                cells = Far.power(top)
                self.gives(r.top, top)
                self.assertEqual((len(r), r.names(), r.guards()), (0, [], []))
                self.gives(r.free_ranges(), [(0, cells)])
                self.gives(r.free_cells(), cells)
                self.gives(r.free_blocks(), 1)
                self.gives(r.free_block(0), (0, cells))
                self.gives(r.greatest(), top)
                self.gives(r.fits(top), 1)
                self.gives(r.fits(0), cells)
                self.gives(r.fits(top + 1), 0)
                self.assertEqual([r.free_count(top), r.free_count(top + 1)], [1, 0])
                self.gives(r.halvings(0), top)
                self.gives(r.would(top), (0, cells))
                self.assertIsNone(r.would(top + 1))
                self.assertIsNone(r.who(cells - 1))
                self.refused(r, Outside, {"address": cells}, r.who, cells)
                self.refused(r, NoBuddy, {"order": top + 1, "most": Far(top)}, r.take, "a", top + 1)
                self.refused(r, NothingToUndo, {}, r.undo)
                self.gives(r.take("a", top), (0, cells))
                self.full(r, top)

    def full(self, r, top):
        self.assertEqual(r.free_ranges(), [])
        self.gives(r.free_cells(), 0)
        self.gives(r.free_blocks(), 0)
        self.assertIsNone(r.greatest())
        self.assertIsNone(r.would(0))
        self.gives(r.fits(0), 0)
        for order in [0, top, top + 1]:
            self.refused(r, NoBuddy, {"order": order, "most": None}, r.take, "b", order)
            self.refused(r, NoBuddy, {"order": order, "most": None}, r.halvings, order)
            self.refused(r, NoBuddy, {"order": order, "most": None}, r.halved, order, -1)
            self.refused(r, NoBuddy, {"order": order, "most": None}, r.__setitem__, "b", order)
        self.refused(r, NoBuddy, {"order": top + 1, "most": Far(top)}, r.__setitem__, "a", top + 1)
        self.refused(r, NoBlock, {"value": 0}, r.free_block, 0)
        self.gives(r.joinings("a"), 0)
        self.refused(r, NoBlock, {"value": 0}, r.joined, "a", 0)
        self.gives(r.give("a"), (0, Far.power(top)))


class Edges(RoomCase):
    def test_guards(self):
        for _, power in SCALES:
            r = Buddies(power + 4)
            r.guard(power + 2, 2)
            r.guard(power, Far(3))
            self.gives(r.guards(), [(power, 3), (power + 2, 2)])
            r.take("a", power + 2)
            r.take("b", power + 2)
            self.refused(r, Guarded, {"order": power + 2, "many": 2}, r.take, "c", power)
            self.refused(r, Guarded, {"order": power, "many": Far(3)}, r.take, "c", power + 3)
            self.refused(r, Guarded, {"order": power + 2, "many": 2}, r.__setitem__, "c", power)
            self.refused(r, Guarded, {"order": power + 2, "many": 2}, r.__setitem__, "a", power + 3)
            self.refused(r, Guarded, {"order": power + 2, "many": 3}, r.guard, power + 2, 3)
            r.guard(power + 2, Far(1))
            self.gives(r.guards(), [(power, 3), (power + 2, 1)])
            self.gives(r.take("c", power), r["c"])
            self.refused(r, Guarded, {"order": power + 2, "many": Far(1)}, r.take, "d", power + 2)
            r.guard(power + 2, 0)
            r.guard(power + 1, 0)
            self.gives(r.guards(), [(power, 3)])
            r.take("d", power + 2)
            self.refused(r, Guarded, {"order": power, "many": Far(3)}, r.take, "e", power)
            r.undo()
            r.undo()
            r.undo()
            self.gives(r.guards(), [(power, 3), (power + 2, 1)])

    def test_guards_of_the_same_order_hold_what_was_passed(self):
        r = Buddies(3)
        order, many, later = Far(1), Far(3), Far(4)
        r.guard(1, 2)
        r.guard(order, many)
        self.raises_same(Guarded, {"order": order, "many": many}, r.take, "a", 2)
        r.guard(1, later)
        with self.assertRaises(Guarded) as caught:
            r.take("a", 0)
        self.assertEqual((caught.exception.order, type(caught.exception.order)), (1, int))
        self.assertIs(caught.exception.many, later)
        r.undo()
        self.raises_same(Guarded, {"order": order, "many": many}, r.take, "a", 2)

    def test_the_guard_of_the_least_order_is_named(self):
        r = Buddies(4)
        r.guard(3, 2)
        r.guard(1, 8)
        r.guard(2, 4)
        self.refused(r, Guarded, {"order": 1, "many": 8}, r.take, "a", 0)
        r.guard(1, 7)
        self.refused(r, Guarded, {"order": 2, "many": 4}, r.take, "a", 0)
        r.guard(2, 3)
        self.refused(r, Guarded, {"order": 3, "many": 2}, r.take, "a", 0)
        r.guard(3)
        self.gives(r.take("a", 0), (0, 1))
        self.refused(r, Guarded, {"order": 1, "many": 7}, r.take, "b", 1)
        self.gives(r.take("b", 0), (1, 2))

    def test_guards_that_cannot_hold(self):
        r = Buddies(4)
        for order, many in [(5, 1), (4, 2), (0, 17), (Far.power(2**70), Far(1)), (0, Far.power(2**70))]:
            self.refused(r, Guarded, {"order": order, "many": many}, r.guard, order, many)
            self.assertIsNone(r.guard(order, 0))
        r.guard(4, 1)
        r.guard(0, 16)
        self.gives(r.guards(), [(0, 16), (4, 1)])

    def test_assignments(self):
        r = Buddies(4)
        r["a"] = 1
        self.gives(r["a"], (0, 2))
        r["a"] = 1
        self.gives(r["a"], (0, 2))
        r["a"] = 0
        self.gives(r["a"], (0, 1))
        r["a"] = 3
        self.gives(r["a"], (0, 8))
        r["b"] = 0
        self.gives(r["b"], (8, 9))
        r["b"] = 2
        self.gives(r["b"], (8, 12))
        r["c"] = 1
        r["d"] = 0
        self.gives((r["c"], r["d"]), ((12, 14), (14, 15)))
        self.refused(r, NoBuddy, {"order": 2, "most": Far(1)}, r.__setitem__, "c", 2)
        self.refused(r, NoBuddy, {"order": 4, "most": Far(3)}, r.__setitem__, "a", 4)
        self.refused(r, NoBuddy, {"order": 3, "most": Far(2)}, r.__setitem__, "b", 3)
        r["d"] = 0
        r.give("b")
        r["d"] = 2
        self.gives(r["d"], (8, 12))
        r["d"] = 1
        r["c"] = 2
        self.gives(r["c"], (12, 16))
        self.assertEqual(undoable(r), 13)
        r.undo()
        self.gives(r["c"], (12, 14))

    def test_a_block_that_is_not_aligned_to_the_new_order_moves(self):
        r = Buddies(4)
        r.take("a", 1)
        r.take("b", 1)
        r.give("a")
        r["b"] = 2
        # Its start is no multiple of 4, and (0, 4) is free once it is given.
        self.gives(r["b"], (0, 4))
        r.take("c", 2)
        r["b"] = 3
        self.gives(r["b"], (8, 16))

    def test_far_rooms(self):
        top = Far.power(Far.power(2**70))
        r = Buddies(top)
        p = Far.power(2**70)
        self.gives(r.take("a", p), (0, Far.power(p)))
        self.gives(r.take("b", 5), (Far.power(p), Far.power(p) + 32))
        self.gives(r.take("c", top - 1), (Far.power(top - 1), Far.power(top)))
        self.gives(r.free_blocks(), (p - 5) + (top - 1 - p - 1))
        self.gives(r.greatest(), top - 2)
        self.gives(r.halvings(0), 5)
        self.gives(r.halvings(6), 0)
        self.gives(r.halvings(p), 1)
        self.gives(r.would(p), (Far.power(p + 1), 3 * Far.power(p)))
        self.gives(r.joinings("b"), p - 5)
        self.gives(r.joined("b", p - 6), (Far.power(p), Far.power(p + 1)))
        self.refused(r, NoBlock, {"value": p - 5}, r.joined, "b", p - 5)
        self.gives(r.joinings("a"), 0)
        self.gives(r.free_block(p - 5), (Far.power(p + 1), Far.power(p + 2)))
        self.gives(r.fits(top - 2), 1)
        self.gives(r.fits(p), Far.power(top - 1 - p) - 2)
        r["b"] = p
        self.gives(r["b"], (Far.power(p), Far.power(p + 1)))
        self.assertEqual(r.who(Far.power(p) + p), "b")
        self.assertEqual(r.names(), ["a", "b", "c"])
        self.gives(r.give("c"), (Far.power(top - 1), Far.power(top)))
        self.gives(r.give("a"), (0, Far.power(p)))
        self.gives(r.give("b"), (0, Far.power(top)))

    def test_results_are_judged(self):
        self.too_large(1 + 2 * WIDE_SIZE, 2, Buddies, WIDE)
        high = Far(model.tower(6))
        self.too_large(1 + model.size(high.form) + model.size((high + 1).form), 7, Buddies, high)
        r = Buddies(Far.power(5000))
        before = state_of(r)
        wide = model.form(WIDE)
        parts = 1 + model.size(wide) + model.size(model.form(WIDE + 1))
        self.too_large(parts, 2, r.take, "a", WIDE)
        self.too_large(parts, 2, r.__setitem__, "a", WIDE)
        self.too_large(parts, 2, r.would, WIDE)
        self.too_large(WIDE_SIZE, 1, r.guard, WIDE, 1)
        self.too_large(WIDE_SIZE, 1, r.guard, 0, WIDE)
        self.assertIsNone(r.guard(WIDE, 0))
        r.undo()
        self.assertEqual(state_of(r), before)
        self.assertEqual(r.free_count(WIDE), 0)

    def test_copies(self):
        r = Buddies(5)
        r.take("a", 1)
        r.guard(2, 3)
        copy = r.copied()
        self.assertIs(type(copy), Buddies)
        self.gives(copy.top, 5)
        self.assertEqual(state_of(copy), state_of(r))
        self.assertIs(copy == r, False)
        copy.take("b", 1)
        r.give("a")
        self.assertEqual((copy.names(), r.names()), (["a", "b"], []))
        copy.undo()
        copy.undo()
        self.assertEqual(copy.guards(), [])
        copy.undo()
        self.refused(copy, NothingToUndo, {}, copy.undo)
        self.assertEqual((undoable(r), len(r.guards())), (3, 1))

    def test_attempts(self):
        r = Buddies(5)
        r.take("a", 1)
        r.guard(2, 3)
        before = state_of(r)
        seen = []

        def deeds(room):
            seen.append(room)
            room.undo()
            room.undo()
            room.take("b", 2)
            return "told"

        for error in [UnknownName, KeyError, KeyboardInterrupt]:
            def fails(room):
                deeds(room)
                room.attempt(deeds) if len(room) == 0 else None
                raise error("x")
            with self.assertRaises(error):
                r.attempt(fails)
            self.assertEqual((state_of(r), undoable(r)), (before, 2))
        self.assertEqual(r.attempt(deeds), "told")
        self.assertIs(seen[0], r)
        self.assertEqual((r.names(), undoable(r)), (["b"], 1))


class Questions(RoomCase):
    def test_kinds(self):
        r = Buddies(5)
        r.take("a", 1)
        for value in [*NO_NAMES, "b", "aa", r]:
            self.assertIs(value in r, False)
        self.assertIs("a" in r, True)
        for values in [iter, list, tuple, dict]:
            with self.assertRaises(TypeError):
                values(r)
        self.assertIs(type(r.free_count(1)), int)
        r.names().clear()
        r.free_ranges().clear()
        self.assertEqual((len(r), len(r.free_ranges())), (1, 1))

    def test_free_blocks_are_those_of_covers(self):
        r = Buddies(Far.power(2**70))
        for name, order in [("a", 3), ("b", 2**64), ("c", 2), ("d", 70), ("e", 2**70 - 1), ("f", 0)]:
            r.take(name, order)
        for name in "ad":
            r.give(name)
        k = Far(0)
        for start, stop in r.free_ranges():
            many = cover_count(start, stop)
            for at in [0, 1, many // 2 - 1, many - 1]:
                if 0 <= at < many:
                    self.gives(r.free_block(k + at), cover_block(start, stop, at))
            k = k + many
        self.gives(r.free_blocks(), k)
        self.refused(r, NoBlock, {"value": k}, r.free_block, k)
        for order in [0, 1, 2, 3, 4, 70, 71, 2**64, 2**70 - 1, 2**70]:
            many = sum(len(cover_level(start, stop, order)) for start, stop in r.free_ranges())
            self.assertEqual(r.free_count(order), many)


class Errors(RoomCase):
    def test_names(self):
        r = Buddies(5)
        r.take("a", 1)
        for value in NO_NAMES:
            fields = {"name": value}
            self.raises_same(InvalidName, fields, r.take, value, None)
            self.raises_same(InvalidName, fields, r.__setitem__, value, None)
            self.raises_same(InvalidName, fields, r.joined, value, None)
            for function in [r.give, r.joinings, r.__getitem__]:
                self.raises_same(InvalidName, fields, function, value)
        for function in [r.give, r.joinings, r.__getitem__]:
            self.raises_same(UnknownName, {"name": "b"}, function, "b")
        self.raises_same(UnknownName, {"name": "b"}, r.joined, "b", None)
        self.raises_same(NameTaken, {"name": "a"}, r.take, "a", None)

    def test_numbers(self):
        r = Buddies(5)
        r.take("a", 1)
        for value in NO_NUMBERS:
            fields = {"value": value}
            self.raises_same(NotANumber, fields, Buddies, value)
            self.raises_same(NotANumber, fields, r.take, "b", value)
            for name in ["a", "b"]:
                self.raises_same(NotANumber, fields, r.__setitem__, name, value)
            for function in [r.who, r.fits, r.free_count, r.free_block, r.would, r.halvings, r.guard]:
                self.raises_same(NotANumber, fields, function, value)
            self.raises_same(NotANumber, fields, r.guard, value, -1)
            self.raises_same(NotANumber, fields, r.guard, 99, value)
            self.raises_same(NotANumber, fields, r.halved, value, None)
            self.raises_same(NotANumber, fields, r.halved, 99, value)
            self.raises_same(NotANumber, fields, r.joined, "a", value)
        for value in NO_PLACES:
            fields = {"place": value}
            self.raises_same(NoPlace, fields, Buddies, value)
            self.raises_same(NoPlace, fields, r.take, "b", value)
            for name in ["a", "b"]:
                self.raises_same(NoPlace, fields, r.__setitem__, name, value)
            for function in [r.who, r.fits, r.free_count, r.would, r.halvings, r.guard]:
                self.raises_same(NoPlace, fields, function, value)
            self.raises_same(NoPlace, fields, r.guard, value, None)
            self.raises_same(NoPlace, fields, r.guard, 99, value)
            self.raises_same(NoPlace, fields, r.halved, value, None)
            self.raises_same(NoBlock, {"value": value}, r.free_block, value)
            self.raises_same(NoBlock, {"value": value}, r.halved, 1, value)
            self.raises_same(NoBlock, {"value": value}, r.joined, "a", value)
            self.raises(NoBuddy, {"order": 99, "most": Far(4)}, r.halved, 99, value)
        for value in [32, Far(32), Far.power(2**70)]:
            self.raises_same(Outside, {"address": value}, r.who, value)
        for value in [6, Far(6), Far.power(2**70)]:
            for function, name in [(r.take, "b"), (r.__setitem__, "a"), (r.__setitem__, "b")]:
                most = Far(5) if name == "a" else Far(4)
                found = self.raises(NoBuddy, {"order": value, "most": most}, function, name, value)
                self.assertIs(found.order, value)
        self.assertEqual(undoable(r), 1)


class DrawnDeeds(RoomCase):
    """A room and a plain room do the same deeds."""

    def do(self, source, room, plain, factor, power):
        name = source.choice(NAMES)
        order = source.choice([0, 0, 1, 1, 2, 3, source.randrange(plain.top + 2)])
        many = source.choice([0, 0, 1, 2, 3])
        given = source.choice([power + order, Far(power + order)])
        method, arguments, passed = source.choice([
            ("take", (name, order), (name, given)), ("take", (name, order), (name, given)),
            ("give", (name,), (name,)), ("assign", (name, order), (name, given)),
            ("assign", (name, order), (name, given)), ("guard", (order, many), (given, many)), ("undo", (), ())])
        function = getattr(room, "__setitem__" if method == "assign" else method)
        try:
            expected = getattr(plain, method)(*arguments)
        except Refused as e:
            fields = {field: power + value if field in ("order", "most") and value is not None else value
                      for field, value in e.fields.items()}
            with self.assertRaises(getattr(errors, e.error)) as caught:
                function(*passed)
            self.assertEqual(vars(caught.exception), fields)
        else:
            self.gives(function(*passed), scaled(expected, factor))

    def same_state(self, room, plain, factor, power):
        kept = {name: (start, start + (1 << order)) for name, (start, order) in plain.kept.items()}
        self.assertEqual(room.names(), plain.names())
        self.assertEqual(len(room), len(kept))
        for name in NAMES:
            self.assertIs(name in room, name in kept)
            if name in kept:
                self.gives(room[name], scaled(kept[name], factor))
        self.gives(room.guards(), [(power + order, plain.guarded[order]) for order in sorted(plain.guarded)])
        self.gives(room.free_ranges(), scaled(ranges_of(plain.cells()), factor))
        self.gives(room.free_cells(), len(plain.cells()) * factor)
        blocks = plain.blocks()
        self.gives(room.free_blocks(), len(blocks))
        self.gives([room.free_block(k) for k in range(len(blocks))], scaled(blocks, factor))
        most = plain.greatest()
        self.gives(room.greatest(), None if most is None else power + most)

    def same_answers(self, room, plain, factor, power):
        for address in range(1 << plain.top):
            self.assertEqual(room.who(address * factor), plain.who(address))
            self.assertEqual(room.who((address + 1) * factor - 1), plain.who(address))
        for order in range(plain.top + 2):
            self.gives(room.fits(power + order), plain.fits(order))
            self.assertEqual(room.free_count(power + order), len([k for _, k in plain.free if k == order]))
            found = plain.looked_at(order)
            if found is None:
                self.assertIsNone(room.would(power + order))
                continue
            k, start = found
            self.gives(room.would(power + order), scaled((start, start + (1 << order)), factor))
            self.gives(room.halvings(power + order), k - order)
            for j in range(k - order):
                half = 1 << (k - 1 - j)
                self.gives(room.halved(power + order, j), scaled((start + half, start + 2 * half), factor))
            self.raises(NoBlock, {"value": k - order}, room.halved, power + order, k - order)
        for name, (start, order) in plain.kept.items():
            other = PlainRoom(plain.top)
            other.restore(plain.state())
            behind = other.give(name)
            joinings = (behind[1] - behind[0]).bit_length() - 1 - order
            self.gives(room.joinings(name), joinings)
            for j in range(joinings):
                whole = 2 << (order + j)
                first = start // whole * whole
                self.gives(room.joined(name, j), scaled((first, first + whole), factor))
            self.raises(NoBlock, {"value": joinings}, room.joined, name, joinings)

    def play(self, source, room, plain, factor, power, depth):
        for _ in range(source.randrange(1, 10)):
            if depth < 4 and source.random() < 0.12:
                before = plain.state()
                end = source.choice([None, KeyError, UnknownName])

                def action(same):
                    self.assertIs(same, room)
                    self.play(source, room, plain, factor, power, depth + 1)
                    if end:
                        raise end("end")
                    return 7

                if end:
                    with self.assertRaises(end):
                        room.attempt(action)
                    plain.restore(before)
                else:
                    self.assertEqual(room.attempt(action), 7)
            else:
                self.do(source, room, plain, factor, power)
            self.same_state(room, plain, factor, power)

    def test_rows_of_deeds(self):
        for k in range(40):
            source = model.source_of(f"rows of deeds in rooms {k}")
            factor, power = SCALES[k % len(SCALES)]
            top = source.choice([0, 1, 2, 3, 4, 5])
            room, plain = Buddies(power + top), PlainRoom(top)
            for _ in range(5):
                self.play(source, room, plain, factor, power, 0)
                self.same_answers(room, plain, factor, power)
                if source.random() < 0.3:
                    room = room.copied()
            self.assertEqual(undoable(room), len(plain.past))


if __name__ == "__main__":
    unittest.main()
