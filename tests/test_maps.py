"""[44], [45]: maps of places."""

import unittest

from farbits.errors import InvalidRange, NoPlace, NotANumber, NotMapped, NotOneToOne, Overlap
from farbits.errors import TooManyPieces
from farbits.far import Far
from farbits.maps import Map
from farbits.places import Places
from tests import model
from tests.cases import NO_NUMBERS, NO_PLACES, SCALES, WIDE, WIDE_SIZE, Case, bits_of, both_kinds
from tests.cases import ranges_of, scaled


def drawn_map(source, stop=30, most=6):
    """A dict of small places that is led in runs, from 0 on."""
    led = {}
    for _ in range(source.randrange(most)):
        start = source.randrange(stop)
        by = source.choice([0, 0, 3, -2, source.randrange(-12, 13)])
        for p in range(start, start + source.randrange(9)):
            if p + by >= 0:
                led[p] = p + by
    return led


def pieces_of(led):
    """The pieces of a dict of small places."""
    pieces = []
    for p in sorted(led):
        by = led[p] - p
        if pieces and pieces[-1][1] == p and pieces[-1][2] == by:
            pieces[-1] = (pieces[-1][0], p + 1, by)
        else:
            pieces.append((p, p + 1, by))
    return tuple(pieces)


def cut_pieces(source, led):
    """The same map in some other way: cut up, in any order, with empty pieces."""
    pieces = []
    for start, stop, by in pieces_of(led):
        cut = source.randrange(start, stop + 1)
        pieces += [(start, cut, by), [cut, stop, by]]
    pieces.append((7, 7, -100))
    source.shuffle(pieces)
    return pieces


class MapCase(Case):
    def same(self, found, led, factor=1):
        """A map that is a dict of small places, times a factor."""
        self.assertIs(type(found), Map)
        self.gives(found.pieces, scaled(pieces_of(led), factor))

    def set_is(self, found, places, factor=1):
        self.assertIs(type(found), Places)
        self.gives(found.ranges(), scaled(ranges_of(places), factor))


class Examples(MapCase):
    def test_examples(self):
        m = Map([(0, 4, 10), (8, 12, -8), (4, 6, 10)])
        self.gives(m.pieces, ((0, 6, 10), (8, 12, -8)))
        self.gives((m * m).pieces, ((0, 2, 2), (8, 12, 2)))
        self.gives((~m).pieces, ((0, 4, 8), (10, 16, -10)))
        self.assertEqual(str(m), "0:6+10, 8:12-8")

    def test_the_empty_map(self):
        for m in [Map(), Map([]), Map(pieces=()), Map([(5, 5, -9), (0, 0, 1)]), Map.shift(Places(), -5)]:
            self.assertEqual(m.pieces, ())
            self.gives(m.domain().bits, 0)
            self.gives(m.image().bits, 0)
            self.assertIsNone(m.twice())
            self.assertIs(m.rising(), True)
            self.gives(m.fixed().bits, 0)
            self.assertIs(bool(m), False)
            self.assertEqual(str(m), "none")
            self.assertIs(0 in m, False)
            self.gives(m(Places(255)).bits, 0)
            self.assertEqual([m * m, ~m, m | m, m & Places(5), m - Places(5)], [m] * 5)
            self.raises_same(NotMapped, {"place": 0}, m.__getitem__, 0)

    def test_by_name(self):
        s = Places(7)
        self.gives(Map(pieces=[(0, 4, 10)]).pieces, ((0, 4, 10),))
        m = Map.shift(by=5, places=s)
        self.gives(m.pieces, ((0, 3, 5),))
        self.gives(m(places=Places(2)).bits, 64)

    def test_texts(self):
        m = Map([(0, 4, 0), (4, 5, 2**70 + 5), (10, 12, -7), (2**70 + 1, Far.power(2**70), -2**64 - 1)])
        self.assertEqual(
            str(m), "0:4+0, 4:5+(2**70+5), 10:12-7, 2**70+1:2**(2**70)-(2**64+1)")
        self.assertEqual(str(Map([(2**65, 2**66, 2**70), (2**67, 2**68, 2**66 - 2**65)])),
                         "2**65:2**66+2**70, 2**67:2**68+2**65")
        self.assertEqual(str(Map([(2**65, 2**66, 2**70 - 1)])), "2**65:2**66+(2**70-2**0)")


class SmallMaps(MapCase):
    def test_against_dicts(self):
        source = model.source_of("small maps")
        for _ in range(120):
            led = drawn_map(source)
            for factor, _ in SCALES:
                m = Map(scaled(cut_pieces(source, led), factor))
                self.same(m, led, factor)
                self.set_is(m.domain(), set(led), factor)
                self.set_is(m.image(), set(led.values()), factor)
                self.set_is(m.fixed(), {p for p in led if led[p] == p}, factor)
                counts = sorted([q for q in set(led.values()) if list(led.values()).count(q) > 1])
                self.gives(m.twice(), counts[0] * factor if counts else None)
                ordered = [led[p] for p in sorted(led)]
                rising = all(a < b for a, b in zip(ordered, ordered[1:]))
                self.assertIs(m.rising(), rising)
                self.assertIs(bool(m), bool(led))
                text = ", ".join(f"{a}:{b}{'-' if by < 0 else '+'}{abs(by)}" for a, b, by in pieces_of(led))
                if factor == 1:
                    self.assertEqual(str(m), text or "none")
                for p in range(45):
                    for place in both_kinds(p * factor):
                        self.assertIs(place in m, p in led)
                        if p in led:
                            self.gives(m[place], led[p] * factor)
                            if factor != 1:
                                self.gives(m[place + factor - 1], led[p] * factor + factor - 1)
                        else:
                            self.raises_same(NotMapped, {"place": place}, m.__getitem__, place)

    def test_operators(self):
        source = model.source_of("operators of maps")
        for _ in range(150):
            first, second = drawn_map(source), drawn_map(source)
            places = {p for p in range(40) if source.random() < 0.6}
            for factor, _ in SCALES:
                a, b = Map(scaled(pieces_of(first), factor)), Map(scaled(pieces_of(second), factor))
                s = Places.of(scaled(ranges_of(places), factor))
                self.same(b * a, {p: second[first[p]] for p in first if first[p] in second}, factor)
                self.same(a | b, {**first, **second}, factor)
                self.same(a & s, {p: first[p] for p in first if p in places}, factor)
                self.same(a - s, {p: first[p] for p in first if p not in places}, factor)
                self.set_is(a(s), {first[p] for p in first if p in places}, factor)
                self.assertIs(a == b, first == second)
                self.assertIs(a != b, first != second)
                if len(set(first.values())) == len(first):
                    self.same(~a, {first[p]: p for p in first}, factor)
                    self.assertEqual(~~a, a)
                    self.assertEqual(~a * a, Map.shift(a.domain(), 0))
                else:
                    self.raises(NotOneToOne, {"place": a.twice()}, lambda: ~a)

    def test_shift(self):
        source = model.source_of("shifts of sets")
        for _ in range(80):
            places = {p for p in range(30) if source.random() < 0.7}
            by = source.choice([0, 1, 9, -1, -3])
            for factor, _ in SCALES:
                s = Places.of(scaled(ranges_of(places), factor))
                if places and min(places) + by < 0:
                    self.raises(NoPlace, {"place": Far((min(places) + by) * factor)}, Map.shift, s, by * factor)
                else:
                    self.same(Map.shift(s, by * factor), {p: p + by for p in places}, factor)
                    self.same(Map.shift(s, Far(by * factor)), {p: p + by for p in places}, factor)

    def test_pieces_that_touch(self):
        self.gives(Map([(3, 5, 1), (0, 3, 1)]).pieces, ((0, 5, 1),))
        self.gives(Map([(3, 5, 2), (0, 3, 1)]).pieces, ((0, 3, 1), (3, 5, 2)))
        self.gives(Map([(4, 5, 1), (0, 3, 1)]).pieces, ((0, 3, 1), (4, 5, 1)))
        self.gives(Map([(0, 2, 7), (4, 6, 7), (2, 4, 7)]).pieces, ((0, 6, 7),))
        self.gives((Map([(0, 2, 7)]) | Map([(2, 4, 7)])).pieces, ((0, 4, 7),))
        self.gives((Map([(0, 4, 5)]) | Map([(1, 3, 5)])).pieces, ((0, 4, 5),))
        self.gives((Map([(0, 4, 5)]) | Map([(1, 3, 6)])).pieces, ((0, 1, 5), (1, 3, 6), (3, 4, 5)))
        m = Map([(0, 3, 10), (3, 6, 20)])
        self.gives((Map([(10, 13, 10), (23, 26, 0)]) * m).pieces, ((0, 6, 20),))
        self.assertEqual(Map([(0, 3, 1), (3, 5, 1)]), Map([(0, 5, 1)]))

    def test_a_place_just_inside_and_just_outside(self):
        far = Far.power(2**70)
        m = Map([(5, far, far), (far + 1, 2 * far, 5 - far)])
        for p, q in [(5, far + 5), (far - 1, 2 * far - 1), (far + 1, 6), (2 * far - 1, far + 4)]:
            self.gives(m[p], q)
            self.assertIs(p in m, True)
        for p in [0, 4, far, 2 * far, 2 * far + 1]:
            self.raises_same(NotMapped, {"place": p}, m.__getitem__, p)
            self.assertIs(p in m, False)
        self.assertIsNone(m.twice())
        self.assertIs(m.rising(), False)
        self.assertIs(Map([(0, 5, 0), (5, 6, 1), (6, 9, 1)]).rising(), True)
        self.assertIs(Map([(0, 5, 1), (5, 6, 0)]).rising(), False)
        self.gives(Map([(0, 5, 1), (5, 6, 0)]).twice(), 5)
        self.gives(Map([(0, 9, 5), (20, 30, -7), (40, 41, -40)]).twice(), 13)


class Kinds(MapCase):
    def test_equality_and_operators(self):
        m = Map([(0, 4, 10)])
        self.assertEqual(m, Map([(0, 4, Far(10))]))
        for other in [None, True, 0, ((0, 4, 10),), m.pieces, Places(15), object()]:
            self.assertIs(m == other, False)
            self.assertIs(m != other, True)
            for sign in ["mul", "or_"]:
                self.no_such_operator(sign, m, other)
                self.no_such_operator(sign, other, m)
            if not isinstance(other, Places):
                self.no_such_operator("and_", m, other)
                self.no_such_operator("sub", m, other)
        self.no_such_operator("and_", m, m)
        self.no_such_operator("sub", m, m)
        self.no_such_operator("and_", Places(15), m)
        self.no_such_operator("lt", m, m)

    def test_in(self):
        m = Map([(0, 4, 10)])
        for value in [None, True, False, "0", 1.0, -1, Far(-1), -Far.power(2**70), (0,), [0], {}, m, WIDE]:
            self.assertIs(value in m, False)
        self.assertIs(Far(3) in m, True)
        # The domain is too large, but the question is not.
        tops = [(Far(model.tower(5)) + 2**k, Far(model.tower(5)) + 2**k + 1, 0) for k in range(70, 90)]
        m = Map(tops)
        with self.assertRaises(ValueError):
            m.domain()
        self.assertIs(tops[3][0] in m, True)
        self.assertIs(tops[3][1] in m, False)

    def test_not_iterated_over(self):
        m = Map([(0, 4, 10)])
        for values in [iter, list, tuple, dict]:
            with self.assertRaises(TypeError):
                values(m)
        with self.assertRaises(TypeError):
            {m: 1}

    def test_what_is_passed_stays(self):
        pieces = [[8, 12, -8], (0, 4, 10)]
        m = Map(pieces)
        pieces[0][2] = 5
        pieces.clear()
        self.gives(m.pieces, ((0, 4, 10), (8, 12, -8)))
        s = Places(3)
        m | Map([(0, 1, 5)]), m & s, m - s, m(s), ~m, m * m, m.domain(), str(m)
        self.gives(m.pieces, ((0, 4, 10), (8, 12, -8)))
        self.gives(s.bits, 3)


class Errors(MapCase):
    def test_no_numbers(self):
        for value in NO_NUMBERS:
            for piece in [(value, None, None), (-1, value, None), (5, 3, value), (5, 5, value), (0, 4, value)]:
                self.raises_same(NotANumber, {"value": value}, Map, [(0, 5, 1), piece, (0, 1, 2)])
            self.raises_same(NotANumber, {"value": value}, Map.shift, Places(), value)
            self.raises_same(NotANumber, {"value": value}, Map().__getitem__, value)

    def test_ranges_and_places(self):
        for start, stop in [(5, 4), (-1, 3), (Far(5), Far(4)), (-2, -1), (Far.power(2**70), 7)]:
            self.raises_same(InvalidRange, {"start": start, "stop": stop}, Map, [(0, 9, 5), (start, stop, 0)])
        for start, by in [(0, -1), (5, -6), (2**70, -2**70 - 1), (Far.power(2**70), -Far.power(2**71))]:
            self.raises(NoPlace, {"place": Far(start + by)}, Map, [(start, start + 3, by), None])
            self.gives(Map([(start, start, by)]).pieces, ())
        self.gives(Map([(5, 6, -5)]).pieces, ((5, 6, -5),))
        for place in NO_PLACES:
            self.raises_same(NoPlace, {"place": place}, Map([(0, 5, 5)]).__getitem__, place)
        for at in [5, 6, 2**70, Far.power(2**70)]:
            self.raises_same(NotMapped, {"place": at}, Map([(0, 5, 5)]).__getitem__, at)

    def test_overlaps(self):
        for pieces, index in [([(0, 4, 1), (3, 5, 1)], 1), ([(3, 5, 1), (0, 4, 1)], 1), ([(0, 9, 1), (3, 5, 2)], 1),
                              ([(3, 5, 1), (0, 9, 2)], 1), ([(0, 4, 1), (0, 4, 1)], 1),
                              ([(0, 4, 1), (6, 9, 1), (5, 5, 1), (4, 7, 0)], 3),
                              ([(0, 4, 1), (6, 9, 1), (4, 6, 1), (8, 9, 0), (8, 7, 0)], 3)]:
            for factor, _ in SCALES:
                found = scaled(pieces, factor)
                self.raises(Overlap, {"index": index}, Map, found)
        # No overlap with an empty piece.
        self.gives(Map([(0, 4, 1), (2, 2, 9)]).pieces, ((0, 4, 1),))

    def test_which_error_goes_first(self):
        self.raises(NotANumber, {"value": None}, Map, [(5, 3, None)])
        self.raises(InvalidRange, {"start": 5, "stop": 3}, Map, [(5, 3, -9)])
        self.raises(NoPlace, {"place": Far(-8)}, Map, [(0, 5, 0), (1, 3, -9)])
        self.raises(Overlap, {"index": 1}, Map, [(0, 5, 0), (1, 3, 9), (7, 3, 9)])
        self.raises(InvalidRange, {"start": 7, "stop": 3}, Map, [(0, 5, 0), (7, 3, 9), (1, 3, 9)])
        many = [(2 * k, 2 * k + 1, 0) for k in range(201)]
        self.raises(Overlap, {"index": 201}, Map, many + [(3, 5, 0)])
        self.raises(TooManyPieces, {"count": 201}, Map, many)
        self.raises(TooManyPieces, {"count": 201}, Map, many[:-1] + [(WIDE, WIDE + 1, 0)])
        self.raises(NoPlace, {"place": Far(-5)}, Map.shift, Places(bits_of({2 * k for k in range(300)})), -5)

    def test_too_many_pieces(self):
        for factor, _ in SCALES:
            many = scaled([(2 * k, 2 * k + 1, k) for k in range(200)], factor)
            m = Map(many)
            self.assertEqual(len(m.pieces), 200)
            self.gives(Map(many[::-1]).pieces, tuple(many))
            self.raises(TooManyPieces, {"count": 201}, Map, [*many, (1000 * factor, 1001 * factor, 5)])
            self.raises(TooManyPieces, {"count": 201}, lambda: m | Map([(401 * factor, 402 * factor, 0)]))
            self.assertEqual(len((m | Map([(0, 1000 * factor, 0)])).pieces), 1)
        pieces = [(k, k + 1, 5) for k in range(1000)]
        self.gives(Map(pieces[::-1]).pieces, ((0, 1000, 5),))
        even = Places(bits_of({2 * k for k in range(201)}))
        self.raises(TooManyPieces, {"count": 201}, Map.shift, even, 3)
        self.assertEqual(len(Map.shift(even >> 1, 3).pieces), 200)
        line = Map([(0, 10**6, 5)])
        self.raises(TooManyPieces, {"count": 201}, lambda: line & even)
        self.raises(TooManyPieces, {"count": 202}, lambda: line - (even << 1))
        steps = Map([(20 * k, 20 * k + 20, k) for k in range(15)])
        combs = Map([(0, 1000, 0), (1000, 2000, -1000), (2000, 3000, -2000)])
        self.assertEqual(len((steps * combs).pieces), 45)
        folds = Map([(1000 * k, 1000 * k + 1000, -1000 * k) for k in range(14)])
        self.raises(TooManyPieces, {"count": 14 * 15}, lambda: steps * folds)
        self.assertEqual(len((steps * (folds & Places((1 << 13000) - 1))).pieces), 13 * 15)

    def test_results_are_judged(self):
        self.too_large(WIDE_SIZE, 1, Map, [(0, 4, WIDE)])
        self.too_large(model.size(model.form(WIDE + 4)), 1, Map, [(0, WIDE + 4, 0)])
        self.too_large(WIDE_SIZE, 1, Map, [(70, 71, 0), (0, 4, WIDE), (80, WIDE + 4, 0)])
        self.gives(Map([(WIDE, WIDE, WIDE)]).pieces, ())
        self.too_large(model.size(model.form(-WIDE)), 1, Map, [(0, 5, -WIDE)])
        half = int("10" * 550, 2)
        a, b = Map([(0, 5, half << 1200)]), Map([(0, half << 3000, half << 2400)])
        self.too_large(2 * 2 * 550 + 1, 1, lambda: b * a)
        self.too_large(2 * 2 * 550 + 1, 1, b.__getitem__, half << 1200)
        self.gives(a[half & 3], (half << 1200) + (half & 3))
        self.assertIs(WIDE in a, False)
        self.raises(NotMapped, {"place": WIDE}, a.__getitem__, WIDE)


if __name__ == "__main__":
    unittest.main()
