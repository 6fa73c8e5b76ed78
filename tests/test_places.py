"""[41], [42]: sets of places."""

import unittest

from farbits.errors import InvalidRange, InvalidSet, InvalidSize, NegativeShift, NoPlace
from farbits.errors import NoSuch, NotANumber
from farbits.far import Far
from farbits.places import Places
from tests import model
from tests.cases import NO_NUMBERS, NO_PLACES, SCALES, WIDE, WIDE_SIZE, Case, bits_of, both_kinds
from tests.cases import far_sets, ranges_of, scaled


def drawn_set(source, stop):
    """A set of small places with runs, gaps and single places."""
    kind = source.randrange(4)
    if kind == 0:
        return {p for p in range(stop) if source.random() < 0.5}
    if kind == 1:
        return {p for p in range(stop) if source.random() < 0.9}
    places = set()
    for _ in range(source.randrange(4)):
        start = source.randrange(stop)
        places |= set(range(start, min(stop, start + source.randrange(12))))
    return places


def least_gap(places, size, level, above):
    start = above
    while start % 2**level or any(p in places for p in range(start, start + size)):
        start += 1
    return start


class Examples(Case):
    def test_examples(self):
        s = Places.of([(5, 6), (0, 3)])
        self.gives(s.bits, 39)
        self.gives(s.kth(3), 5)
        self.gives(s.gap(2), 3)
        self.gives(s.gap(1, level=2), 4)
        self.gives(s.whole_pages(1).bits, 1)
        self.assertEqual(str(s), "0:3, 5:6")

    def test_by_name(self):
        s = Places(bits=39)
        self.assertEqual(Places.of(ranges=[(5, 6), (0, 3)]), s)
        self.gives(s.below(place=3), 3)
        self.gives(s.kth(k=3), 5)
        self.gives(s.gap(size=2, above=4, level=1), 6)
        self.gives(s.pages(level=1).bits, 7)
        self.gives(s.whole_pages(level=1).bits, 1)
        with self.assertRaises(TypeError):
            s.gap(2, 0, 0)

    def test_the_empty_set(self):
        for s in [Places(), Places(0), Places(Far(0)), Places.of([]), Places.of(()), Places.of([(5, 5), (0, 0)])]:
            self.gives(s.bits, 0)
            self.assertEqual(s.ranges(), [])
            self.gives(s.how_many(), 0)
            self.gives(s.below(2**70), 0)
            self.assertIsNone(s.widest())
            self.gives(s.gap(Far.power(2**70)), 0)
            self.gives(s.gap(1, level=70, above=1), 2**70)
            self.gives(s.pages(3).bits, 0)
            self.gives(s.whole_pages(3).bits, 0)
            self.assertIs(bool(s), False)
            self.assertEqual(str(s), "none")
            self.assertIs(0 in s, False)
            self.raises_same(NoSuch, {"rank": 0}, s.kth, 0)
            self.assertIs(s <= Places(1), True)
            self.assertIs(s < s, False)


class SmallSets(Case):
    def test_against_sets_of_python(self):
        source = model.source_of("small sets")
        for _ in range(150):
            places = drawn_set(source, 40)
            s = Places(bits_of(places))
            self.gives(s.bits, bits_of(places))
            self.gives(s.ranges(), ranges_of(places))
            self.gives(s.how_many(), len(places))
            self.assertEqual(str(s), ", ".join(f"{a}:{b}" for a, b in ranges_of(places)) or "none")
            self.assertIs(bool(s), bool(places))
            widest = None
            for a, b in ranges_of(places):
                if widest is None or b - a > widest[1] - widest[0]:
                    widest = (a, b)
            self.gives(s.widest(), widest)
            ordered = sorted(places)
            for p in range(44):
                for place in both_kinds(p):
                    self.assertIs(place in s, p in places)
                    self.gives(s.below(place), len([q for q in places if q < p]))
                    if p < len(ordered):
                        self.gives(s.kth(place), ordered[p])
                    else:
                        self.raises_same(NoSuch, {"rank": place}, s.kth, place)
            for level in range(7):
                self.gives(s.pages(level).bits, bits_of({p >> level for p in places}))
                whole = {q for q in range(50) if all(p in places for p in range(q << level, (q + 1) << level))}
                self.gives(s.whole_pages(Far(level)).bits, bits_of(whole))

    def test_gaps(self):
        source = model.source_of("gaps")
        for _ in range(250):
            places = drawn_set(source, 40)
            s = Places(bits_of(places))
            for factor, power in SCALES:
                t = Places.of(scaled(ranges_of(places), factor))
                for _ in range(4):
                    size, level = source.randrange(1, 9), source.randrange(5)
                    above = source.choice([0, source.randrange(45)])
                    a = least_gap(places, size, level, above)
                    self.gives(s.gap(size, level=level, above=above), a)
                    self.gives(t.gap(size * factor, level=power + level, above=above * factor), a * factor)
                    self.gives(t.gap(size * factor, level=power + level, above=Far(above * factor)), a * factor)

    def test_gap_that_just_fits(self):
        for factor, power in SCALES:
            s = Places.of(scaled([(0, 4), (7, 16), (20, 21)], factor))
            self.gives(s.gap(3 * factor), 4 * factor)
            self.gives(s.gap(3 * factor + 1), 16 * factor)
            self.gives(s.gap(4 * factor), 16 * factor)
            self.gives(s.gap(4 * factor + 1), 21 * factor)
            self.gives(s.gap(factor, level=power + 2, above=4 * factor), 4 * factor)
            self.gives(s.gap(factor, level=power + 2, above=4 * factor + 1), 16 * factor)
            self.gives(s.gap(factor, level=power + 4), 16 * factor)
            self.gives(s.gap(factor, level=power + 4, above=16 * factor + 1), 32 * factor)
            self.gives(s.gap(factor, level=power + 5), 32 * factor)
            if factor != 1:
                self.gives(s.gap(2 * factor, above=4 * factor + 1), 4 * factor + 1)
                self.gives(s.gap(3 * factor, above=4 * factor + 1), 16 * factor)

    def test_unions_of_ranges(self):
        source = model.source_of("unions of ranges")
        for _ in range(150):
            ranges = []
            for _ in range(source.randrange(8)):
                start = source.randrange(40)
                ranges.append((start, start + source.choice([0, 1, 2, source.randrange(20)])))
            union = {p for start, stop in ranges for p in range(start, stop)}
            for factor, _ in SCALES:
                for given in [ranges, tuple(ranges), [list(pair) for pair in ranges]]:
                    s = Places.of(scaled(given, factor))
                    self.gives(s.ranges(), scaled(ranges_of(union), factor))
                    self.gives(s.how_many(), len(union) * factor)

    def test_ranges_that_touch_overlap_and_are_empty(self):
        self.gives(Places.of([(3, 5), (0, 3)]).ranges(), [(0, 5)])
        self.gives(Places.of([(0, 4), (3, 5)]).ranges(), [(0, 5)])
        self.gives(Places.of([(0, 9), (3, 5), (0, 9), (8, 9)]).ranges(), [(0, 9)])
        self.gives(Places.of([(0, 3), (4, 5)]).ranges(), [(0, 3), (4, 5)])
        self.gives(Places.of([(0, 3), (7, 7), (2, 2)]).ranges(), [(0, 3)])
        many = [(k, k + 2) for k in range(3000, 0, -1)]
        self.gives(Places.of(many).ranges(), [(1, 3002)])


class Operators(Case):
    def pairs(self):
        source = model.source_of("operators of sets")
        sets = far_sets("far sets", 24)
        sets += [(model_of, model_of) for model_of in [0, 1, 6, 2**64 - 1]]
        for m, form in sets:
            n, other = source.choice(sets)
            yield m, Places(Far(form)), n, Places(Far(other))
            n = m & n if source.random() < 0.5 else m | n
            yield m, Places(Far(form)), n, Places(Far(model.far_form(n)))
            yield m, Places(Far(form)), m, Places(Far(form))

    def test_sets_of_several_heights(self):
        for m, a, n, b in self.pairs():
            for result, expected in [(a | b, m | n), (a & b, m & n), (a - b, m & ~n), (a ^ b, m ^ n)]:
                self.assertIs(type(result), Places)
                self.assertEqual(result.bits.form, model.far_form(expected))
            self.assertIs(a <= b, m & ~n == 0)
            self.assertIs(a < b, m & ~n == 0 and m != n)
            self.assertIs(a >= b, n & ~m == 0)
            self.assertIs(a > b, n & ~m == 0 and m != n)
            self.assertIs(a == b, m == n)
            self.assertIs(a != b, m != n)

    def test_shifts(self):
        for m, a, _, _ in self.pairs():
            for n in [0, 1, 5, 70, 2**64, Far.power(2**70) + 3]:
                for number in both_kinds(n):
                    self.gives((a << number).bits, a.bits << n)
                    self.gives((a >> number).bits, a.bits >> n)
                    self.assertEqual((a << number) >> number, a)
        self.gives((Places(0b101101) >> 3).bits, 0b101)
        self.gives((Places(0b101101) << 3).bits, 0b101101000)

    def test_far_ranges(self):
        for m, form in far_sets("far ranges of sets"):
            s = Places(Far(form))
            turns = s.bits.turns()
            pairs = list(zip(turns[::2], turns[1::2]))
            self.gives(s.ranges(), pairs)
            self.assertEqual(Places.of(pairs[::-1]), s)
            self.gives(s.how_many(), sum([b - a for a, b in pairs], Far(0)))
            self.assertEqual(str(s), ", ".join(f"{a}:{b}" for a, b in pairs) or "none")
            count = Far(0)
            for a, b in pairs:
                self.gives(s.below(a), count)
                self.gives(s.kth(count), a)
                self.gives(s.below(b - 1), count + (b - 1 - a))
                count = count + (b - a)
                self.gives(s.kth(count - 1), b - 1)
                self.gives(s.below(b), count)
                self.assertTrue(a in s and b - 1 in s and b not in s and a - 1 not in s)
            self.raises_same(NoSuch, {"rank": count}, s.kth, count)
            if pairs:
                most = max([b - a for a, b in pairs])
                self.gives(s.widest(), [(a, b) for a, b in pairs if b - a == most][0])

    def test_far_pages(self):
        for factor, power in SCALES:
            s = Places.of(scaled([(1, 8), (9, 12), (14, 15)], factor))
            self.gives(s.pages(power + 1).ranges(), [(0, 6), (7, 8)])
            self.gives(s.whole_pages(power + 1).ranges(), [(1, 4), (5, 6)])
            self.gives(s.pages(power).ranges(), [(1, 8), (9, 12), (14, 15)])
            self.gives(s.whole_pages(power).ranges(), [(1, 8), (9, 12), (14, 15)])
            self.gives(s.pages(power + 9).ranges(), [(0, 1)])
            self.gives(s.whole_pages(power + 3).bits, 0)

    def test_kinds(self):
        s = Places(5)
        for other in [5, Far(5), None, True, (0, 2), [0], {0, 2}, object()]:
            self.assertIs(s == other, False)
            self.assertIs(s != other, True)
            for sign in ["or_", "and_", "sub", "xor", "le", "lt", "ge", "gt"]:
                self.no_such_operator(sign, s, other)
                self.no_such_operator(sign, other, s)
        for other in [None, True, Places(1), "1", 1.0]:
            for sign in ["lshift", "rshift"]:
                self.no_such_operator(sign, s, other)
        for value in [None, True, False, "0", 1.0, -1, Far(-1), -Far.power(2**70), (0,), [0], {}, s]:
            self.assertIs(value in s, False)
        self.assertIs(Far(2) in s, True)
        self.assertIs(Far(1) in s, False)
        for values in [iter, list, tuple, set]:
            with self.assertRaises(TypeError):
                values(s)
        with self.assertRaises(TypeError):
            {s: 1}


class Errors(Case):
    def test_no_numbers(self):
        s = Places(39)
        for value in NO_NUMBERS:
            self.raises_same(NotANumber, {"value": value}, Places, value)
            self.raises_same(NotANumber, {"value": value}, Places.of, [(0, 3), (value, None)])
            self.raises_same(NotANumber, {"value": value}, Places.of, [(-1, value), (5, 3)])
            for function in [s.below, s.kth, s.gap, s.pages, s.whole_pages]:
                self.raises_same(NotANumber, {"value": value}, function, value)
            self.raises_same(NotANumber, {"value": value}, s.gap, 1, level=value, above=None)
            self.raises_same(NotANumber, {"value": value}, s.gap, 1, above=value, level=0)

    def test_wrong_numbers(self):
        s = Places(39)
        for value in NO_PLACES:
            self.raises_same(InvalidSet, {"value": value}, Places, value)
            for function in [s.below, s.pages, s.whole_pages]:
                self.raises_same(NoPlace, {"place": value}, function, value)
            self.raises_same(NoSuch, {"rank": value}, s.kth, value)
            self.raises_same(InvalidSize, {"amount": value}, s.gap, value)
            self.raises_same(NoPlace, {"place": value}, s.gap, 1, level=value)
            self.raises_same(NoPlace, {"place": value}, s.gap, 1, above=value)
            self.raises_same(NegativeShift, {"amount": value}, s.__lshift__, value)
            self.raises_same(NegativeShift, {"amount": value}, s.__rshift__, value)
            self.raises_same(InvalidRange, {"start": value, "stop": 5}, Places.of, [(1, 2), (value, 5)])
        for start, stop in [(5, 4), (Far(5), Far(4)), (Far.power(2**70), 2**70), (-2, -1)]:
            self.raises_same(InvalidRange, {"start": start, "stop": stop}, Places.of, [(0, 9), (start, stop), (None, 1)])
        for value in [0, Far(0)]:
            self.raises_same(InvalidSize, {"amount": value}, s.gap, value)

    def test_which_error_goes_first(self):
        s = Places(39)
        self.raises(InvalidSize, {"amount": 0}, s.gap, 0, level=None, above=None)
        self.raises(NotANumber, {"value": None}, s.gap, None, level=-1)
        self.raises(NoPlace, {"place": -1}, s.gap, 1, level=-1, above=None)
        self.raises(NotANumber, {"value": "x"}, s.gap, 1, level="x", above=-1)
        self.raises(NotANumber, {"value": None}, Places.of, [(0, 1), (5, None), (3, 2)])
        self.raises(InvalidRange, {"start": 3, "stop": 2}, Places.of, [(0, 1), (3, 2), (5, None)])

    def test_results_are_judged(self):
        negative = -WIDE
        self.too_large(WIDE_SIZE, 1, Places, WIDE)
        self.raises_same(InvalidSet, {"value": negative}, Places, negative)
        half = int("10" * 550, 2)
        a, b = Places(half << 1200), Places(half << 2400)
        self.too_large(2 * 2 * 550 + 1, 1, lambda: a | b)
        self.too_large(2 * 2 * 550 + 1, 1, lambda: a ^ b)
        self.gives((a & b).bits, 0)
        self.assertEqual(a - b, a)
        self.assertIs(a <= b, False)
        self.raises(NoSuch, {"rank": WIDE}, a.kth, WIDE)
        self.gives(a.below(WIDE), 550)
        self.assertIs(WIDE in a, False)
        self.gives((a >> WIDE).bits, 0)
        parts = 1 + WIDE_SIZE + model.size(model.form(WIDE + 1))
        self.too_large(parts, 2, Places.of, [(WIDE, WIDE + 1)])

    def test_the_largest_sets(self):
        ranges = [(70 + 2 * k, 71 + 2 * k) for k in range(999)]
        s = Places.of(ranges)
        self.assertEqual(s.bits.size, 1999)
        self.gives(s.ranges(), ranges)
        self.too_large(2001, 1, Places.of, ranges + [(5000, 5001)])
        self.gives(Places.of([*ranges, (5000, 5001), (60, 6000)]).ranges(), [(60, 6000)])
        self.gives(s.how_many(), 999)
        self.gives(s.gap(2), 0)
        self.gives(s.gap(71), 70 + 2 * 998 + 1)
        self.gives(s.gap(1, above=70, level=1), 70 + 2 * 999)

    def test_high_numbers(self):
        high = Far(model.tower(5))
        s = Places.of([(0, high - 1), (high, high + 1)])
        self.gives(s.gap(1), high - 1)
        self.gives(s.gap(2), high + 1)
        self.gives(s.gap(2, level=high), Far.power(high))
        higher = Far.power(high)
        self.assertEqual(higher.form, model.tower(6))
        parts = 1 + model.size(higher.form) + model.size((higher + 1).form)
        self.too_large(parts, 7, s.gap, 1, level=higher)
        self.too_large(parts, 7, Places(1).__lshift__, higher)
        self.gives(Places(2).gap(1, level=higher), 0)
        self.too_large(parts, 7, Places.of, [(higher, higher + 1)])

    def test_what_is_passed_stays(self):
        ranges = [(5, 6), [0, 3], (2, 4)]
        s = Places.of(ranges)
        self.assertEqual(ranges, [(5, 6), [0, 3], (2, 4)])
        before = s.bits.form
        s.ranges().append((9, 10))
        s | Places(1), s & Places(1), s << 5, s >> 5, s.gap(5, level=3), s.pages(1), str(s)
        s |= Places(2**70)
        self.assertEqual(before, Places.of(ranges).bits.form)
        ranges.clear()
        self.gives(s.ranges(), [(0, 4), (5, 6), (70, 71)])


if __name__ == "__main__":
    unittest.main()
