"""[33], [34]: covers of ranges by aligned blocks."""

import unittest

from farbits.covers import cover_at, cover_block, cover_count, cover_level
from farbits.errors import InvalidRange, NoBlock, NoPlace, NotANumber, TooLarge
from farbits.far import Far
from tests import model
from tests.test_counting import NO_NUMBERS, WIDE, Case, both_kinds, far_numbers


def cover_of(start, stop):
    """The cover by the definition: from each start the greatest block that fits."""
    blocks = []
    while start < stop:
        order = 0
        while start % (2 << order) == 0 and start + (2 << order) <= stop:
            order += 1
        blocks.append((start, start + (1 << order)))
        start += 1 << order
    return blocks


class CoverCase(Case):
    def is_tuple(self, found, numbers):
        self.assertIs(type(found), tuple)
        self.assertEqual(len(found), len(numbers))
        for number in found:
            self.assertIs(type(number), Far)
        self.assertEqual(list(found), list(numbers))

    def check(self, start, stop, given_start, given_stop):
        """All functions for a range of ints with not too many blocks."""
        blocks = cover_of(start, stop)
        self.gives(cover_count(given_start, given_stop), len(blocks))
        for k, block in enumerate(blocks):
            self.is_tuple(cover_block(given_start, given_stop, k), block)
            for address in {block[0], block[1] - 1, (block[0] + block[1]) // 2}:
                self.is_tuple(cover_at(given_start, given_stop, address), (k, *block))
        for order in range(stop.bit_length() + 2):
            found = cover_level(given_start, given_stop, order)
            self.assertIs(type(found), list)
            expected = [block for block in blocks if block[1] - block[0] == 1 << order]
            self.assertEqual(len(found), len(expected))
            for block, numbers in zip(found, expected):
                self.is_tuple(block, numbers)
        for k in [-1, len(blocks), len(blocks) + 1, 2**70]:
            self.raises(NoBlock, {"value": k}, cover_block, given_start, given_stop, k)
        for address in [-1, start - 1, stop, stop + 1, 2**70 + stop]:
            self.raises(NoBlock, {"value": address}, cover_at, given_start, given_stop, address)


class Ints(CoverCase):
    def test_examples(self):
        blocks = [(5, 6), (6, 8), (8, 16), (16, 20), (20, 21)]
        self.assertEqual([cover_block(5, 21, k) for k in range(5)], blocks)
        self.assertEqual(cover_of(5, 21), blocks)
        self.assertEqual(cover_block(5, 21, 3), (16, 20))
        self.assertEqual(cover_at(5, 21, 7), (1, 6, 8))
        self.assertEqual(cover_level(5, 21, 0), [(5, 6), (20, 21)])
        for p in [1, 2, 64, 70, Far.power(2**70), Far.power(Far.power(2**70)) + 5]:
            self.gives(cover_count(1, Far.power(p)), p)

    def test_small_ranges(self):
        for start in range(34):
            for stop in range(start, 35):
                self.check(start, stop, start, stop)
        self.check(5, 21, Far(5), Far(21))

    def test_by_name(self):
        self.gives(cover_count(stop=21, start=5), 5)
        self.is_tuple(cover_block(k=3, stop=21, start=5), (16, 20))
        self.is_tuple(cover_at(address=7, stop=21, start=5), (1, 6, 8))
        self.assertEqual(cover_level(order=0, stop=21, start=5), [(5, 6), (20, 21)])

    def test_empty_ranges(self):
        for place in [0, 5, 2**64, Far.power(2**70)]:
            self.gives(cover_count(place, place), 0)
            self.raises(NoBlock, {"value": 0}, cover_block, place, place, 0)
            for address in [place, place + 1, place - 1]:
                self.raises(NoBlock, {"value": address}, cover_at, place, place, address)
            self.assertEqual(cover_level(place, place, 3), [])

    def test_long_ranges(self):
        source = model.source_of("covers")
        for _ in range(30):
            start, stop = sorted([abs(model.random_int(source, source.choice([66, 130]))) for _ in range(2)])
            self.check(start, stop, start, stop)
        for start, stop in [(2**64 - 1, 2**64 + 1), (2**64, 2**65), (0, 2**64 - 1), (1, 2**64), (0, 2**64),
                            (2**63, 2**65), (2**64 - 2**40, 2**64 + 2**50), (2**70 - 1, 2**70)]:
            for first in both_kinds(start):
                for last in both_kinds(stop):
                    self.check(start, stop, first, last)


class FarRanges(CoverCase):
    def block_is_right(self, start, stop, k, block):
        """Whether a block is aligned, in the range, greatest there, and found again."""
        first, behind = block
        size = behind - first
        self.assertTrue(start <= first < behind <= stop)
        order = size.low
        self.assertEqual(size, Far.power(order))
        self.assertTrue(first == 0 or first.low >= order)
        parent = first >> (order + 1) << (order + 1)
        self.assertFalse(start <= parent and parent + 2 * size <= stop)
        for address in (first, behind - 1, first + size // 2 if order > 0 else first):
            self.is_tuple(cover_at(start, stop, address), (k, first, behind))
        self.assertIn(block, cover_level(start, stop, order))

    def test_from_block_to_block(self):
        numbers = [abs(x) for x in far_numbers("far covers", 24, 12, 150)]
        for x, y in zip(numbers, numbers[1:]):
            start, stop = (x, y) if x < y else (y, x)
            many = cover_count(start, stop)
            self.assertEqual(cover_block(start, stop, 0)[0], start)
            self.assertEqual(cover_block(start, stop, many - 1)[1], stop)
            self.raises(NoBlock, {"value": many}, cover_block, start, stop, many)
            ranks = [0, 1, 2, many - 2, many - 1, many // 2, many // 4, cover_at(start, stop, stop // 2)[0]
                     if start <= stop // 2 else 0]
            for k in ranks:
                if 0 <= k < many:
                    block = cover_block(start, stop, k)
                    self.block_is_right(start, stop, k, block)
                    if k + 1 < many:
                        self.assertEqual(cover_block(start, stop, k + 1)[0], block[1])
            for address in [start - 1, stop, -1 - stop]:
                self.raises(NoBlock, {"value": address}, cover_at, start, stop, address)

    def test_addresses_in_the_middle(self):
        p, q = Far.power(2**70), Far.power(Far.power(2**70))
        start, stop = p + 5, Far.power(q) + p - 3
        for address in [start, start + 1, 2 * p, 3 * p + 1, q, q + 1, Far.power(q) - 1, Far.power(q),
                        Far.power(q) + 1, stop - p // 2, stop - 1, stop // 2]:
            k, first, behind = cover_at(start, stop, address)
            self.assertTrue(first <= address < behind)
            self.is_tuple(cover_block(start, stop, k), (first, behind))
            self.block_is_right(start, stop, k, (first, behind))

    def test_levels(self):
        p = Far.power(2**70)
        self.assertEqual(cover_level(1, Far.power(p), p - 1), [(Far.power(p - 1), Far.power(p))])
        self.assertEqual(cover_level(1, Far.power(p), p), [])
        self.assertEqual(cover_level(0, Far.power(p), p), [(0, Far.power(p))])
        self.assertEqual(cover_level(1, 2 * Far.power(p) - 1, 5),
                         [(32, 64), (2 * Far.power(p) - 64, 2 * Far.power(p) - 32)])
        self.gives(cover_count(1, 2 * Far.power(p) - 1), 2 * p)
        self.assertEqual(cover_level(5, 21, p), [])
        self.is_tuple(cover_block(1, 2 * Far.power(p) - 1, p), (Far.power(p), Far.power(p) + Far.power(p - 1)))


class Errors(CoverCase):
    def test_arguments(self):
        far = Far.power(2**70)
        for value in NO_NUMBERS:
            self.raises(NotANumber, {"value": value}, cover_count, value, None)
            self.raises(NotANumber, {"value": value}, cover_count, -5, value)
            for function in [cover_block, cover_at, cover_level]:
                self.raises(NotANumber, {"value": value}, function, value, None, None)
                self.raises(NotANumber, {"value": value}, function, -5, value, None)
                self.raises(NotANumber, {"value": value}, function, 5, 21, value)
                self.raises(NotANumber, {"value": value}, function, 5, 5, value)
        for start, stop in [(-1, 5), (5, 4), (far, 5), (-far, far), (Far(5), Far(4)), (-2, -1)]:
            self.raises(InvalidRange, {"start": start, "stop": stop}, cover_count, start, stop)
            for function in [cover_block, cover_at, cover_level]:
                self.raises(InvalidRange, {"start": start, "stop": stop}, function, start, stop, None)
        for place in [-1, Far(-1), -far]:
            self.raises(NoPlace, {"place": place}, cover_level, 5, 21, place)
            self.raises(NoBlock, {"value": place}, cover_block, 5, 21, place)
            self.raises(NoBlock, {"value": place}, cover_at, 5, 21, place)
        for k in [5, Far(5), 2**70, far]:
            self.raises(NoBlock, {"value": k}, cover_block, 5, 21, k)
        for address in [4, Far(4), 21, Far(21), far]:
            self.raises(NoBlock, {"value": address}, cover_at, 5, 21, address)

    def test_only_results_are_judged(self):
        self.gives(cover_count(WIDE, WIDE + 2), 1)
        with self.assertRaises(TooLarge) as caught:
            cover_block(WIDE, WIDE + 2, 0)
        self.assertEqual((caught.exception.parts, caught.exception.levels), (2201, 1))
        with self.assertRaises(TooLarge):
            cover_at(0, 2 * WIDE, 2 * WIDE - 1)
        self.assertEqual(cover_level(0, WIDE, WIDE.bit_length() - 1), [(0, 1 << (WIDE.bit_length() - 1))])
        self.is_tuple(cover_block(0, WIDE, 0), (0, 1 << (WIDE.bit_length() - 1)))
        self.raises(NoBlock, {"value": WIDE}, cover_at, 0, 5, WIDE)

    def test_arguments_stay(self):
        start, stop = Far((5, 70)), Far((3, (64, 65)))
        start, stop = abs(start), abs(stop)
        forms = (start.form, stop.form)
        cover_count(start, stop), cover_block(start, stop, 3), cover_at(start, stop, start + 9)
        cover_level(start, stop, 9).append(5)
        self.assertEqual((start.form, stop.form), forms)
        self.assertEqual(len(cover_level(5, 21, 0)), 2)


if __name__ == "__main__":
    unittest.main()
