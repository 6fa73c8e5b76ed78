"""[25], [26]: places that differ, integers with a one, and carries."""

import unittest

from farbits.counting import carries, distance, highest_difference, holders, is_sum
from farbits.counting import ones, ones_below, ones_in_all
from farbits.errors import Endless, InvalidCount, InvalidRange, NoPlace, NotANumber
from farbits.errors import TooLarge
from farbits.far import Far
from tests import model
from tests.test_counting import NO_NUMBERS, WIDE, Case, both_kinds, far_numbers

EDGES = [0, 1, -1, 2, 5, 13, -8, 2**63, 2**64 - 1, 2**64, 2**64 + 1, -2**64, -2**64 - 1, 2**70 + 5, -2**70 - 5]


def carries_of(x, y):
    """The carries of two ints by the definition, from bit to bit."""
    result = 0
    carry = 0
    top = max(x.bit_length(), y.bit_length()) + 2
    for p in range(top):
        carry = int((x >> p & 1) + (y >> p & 1) + carry >= 2)
        result |= carry << (p + 1)
    return result - (carry << (top + 1))


class Differences(Case):
    def test_ints(self):
        for x in EDGES + list(range(-10, 10)):
            for y in EDGES + list(range(-10, 10)):
                for first in both_kinds(x):
                    for second in both_kinds(y):
                        if (x < 0) != (y < 0):
                            self.raises(Endless, {"value": second}, distance, first, second)
                            self.raises(Endless, {"value": second}, highest_difference, first, second)
                        else:
                            self.gives(distance(first, second), bin(x ^ y).count("1"))
                            highest = (x ^ y).bit_length() - 1 if x != y else None
                            self.gives(highest_difference(first, second), highest)

    def test_far(self):
        p, q = Far.power(2**70), Far.power(Far.power(2**70))
        self.gives(distance(Far.power(q), Far.power(q) - 1), q + 1)
        self.gives(distance(y=-Far.power(q), x=-Far.power(q) - 1), q + 1)
        self.gives(distance(Far.run(p, q), 0), q - p)
        self.gives(highest_difference(Far.power(q), Far.power(q) + p), 2**70)
        self.gives(highest_difference(y=Far.power(q), x=-1 - -Far.power(p)), q)
        for x in far_numbers("differences", 30):
            self.gives(distance(x, x), 0)
            self.gives(highest_difference(x, x), None)
            for place in [Far(0), Far(3), p, q, x.length, x.low]:
                y = x ^ Far.power(place)
                self.gives(distance(x, y), 1)
                self.gives(highest_difference(x, y), place)
                self.gives(highest_difference(~x, ~y ^ 7 if place > 5 else ~y), place)
            self.raises(Endless, {"value": 5 if x < 0 else -5}, distance, x, 5 if x < 0 else -5)

    def test_errors(self):
        for value in NO_NUMBERS:
            for function in [distance, highest_difference]:
                self.raises(NotANumber, {"value": value}, function, value, None)
                self.raises(NotANumber, {"value": value}, function, -1, value)
        y = -Far.power(2**70)
        self.raises(Endless, {"value": y}, distance, 5, y)
        self.gives(distance(WIDE, 0), 1100)
        with self.assertRaises(TooLarge):
            distance(0, Far.power(Far(model.spread(998, 70))) - Far.power(Far(model.spread(997, 69)).length)
                     - (1 << 2**70))


class Holders(Case):
    def test_examples(self):
        self.gives(holders(0, 10, 1), 4)
        self.gives(holders(-3, 2, 0), 3)

    def test_ints(self):
        for a in range(-20, 20):
            for b in range(a, 20):
                for p in range(7):
                    self.gives(holders(a, b, p), sum(n >> p & 1 for n in range(a, b)))
        self.gives(holders(Far(3), Far(11), Far(2)), sum(n >> 2 & 1 for n in range(3, 11)))

    def test_around_the_edges_of_plain(self):
        for edge in [2**64, -2**64, 2**70, -2**70]:
            for a in range(edge - 5, edge + 5):
                for b in range(a, edge + 5):
                    for p in [0, 1, 2, 63, 64, 65, 70, 71, 100]:
                        self.gives(holders(a, b, p), sum(n >> p & 1 for n in range(a, b)))

    def test_far(self):
        p, q = Far.power(2**70), Far.power(Far.power(2**70))
        self.gives(holders(0, Far.power(q), 5), Far.power(q - 1))
        self.gives(holders(0, Far.power(q), q - 1), Far.power(q - 1))
        self.gives(holders(0, Far.power(q), q), 0)
        self.gives(holders(0, Far.power(q) + 9, q), 9)
        self.gives(holders(-Far.power(q), Far.power(q), q), Far.power(q))
        self.gives(holders(-Far.power(q) - 9, Far.power(q) + 8, q), Far.power(q) + 8)
        self.gives(holders(-Far.power(q), 0, p), Far.power(q - 1))
        self.gives(holders(-5, 0, q), 5)
        for x in far_numbers("holders", 25):
            for place in [Far(0), Far(70), p, q]:
                for a, b in [(x - 9, x + 5), (x, x + 1), (x, x)]:
                    expected = sum((a + k)[place] for k in range(int(str(b - a))))
                    self.gives(holders(a, b, place), expected)
                y = x + Far.power(q) + 77
                self.gives(holders(x, y, place) + holders(y, y + 8, place), holders(x, y + 8, place))
                self.gives(holders(x, x + Far.power(place + 1), place), Far.power(place))
                # Of n and -1 - n one has the bit.
                self.gives(holders(-y, -x, place) + holders(x, y, place), y - x)

    def test_errors(self):
        for value in NO_NUMBERS:
            self.raises(NotANumber, {"value": value}, holders, value, None, None)
            self.raises(NotANumber, {"value": value}, holders, 5, value, None)
            self.raises(NotANumber, {"value": value}, holders, 5, 5, value)
        far = Far.power(2**70)
        for a, b in [(5, 4), (-4, -5), (far, 5), (far, Far(3)), (far + 1, far), (0, -far)]:
            for p in [None, -1, 3]:
                self.raises(InvalidRange, {"start": a, "stop": b}, holders, a, b, p)
        for p in [-1, Far(-1), -far]:
            self.raises(NoPlace, {"place": p}, holders, -5, 3, p)
            self.raises(NoPlace, {"place": p}, holders, 3, 3, p)
        self.gives(holders(b=10, p=1, a=0), 4)
        x = Far(model.spread(1998, 70))
        self.gives(holders(-x, 0, x.length), x)
        with self.assertRaises(TooLarge):
            holders(-x, 1 + x, 0)


class OnesInAll(Case):
    def test_ints(self):
        total = 0
        for n in range(700):
            self.gives(ones_in_all(n), total)
            total += bin(n).count("1")
        self.gives(ones_in_all(n=Far(5)), 5)

    def test_long_ints(self):
        source = model.source_of("ones in all")
        for _ in range(100):
            n = abs(model.random_int(source, source.choice([64, 65, 100, 600])))
            expected = 0
            for p in range(n.bit_length()):
                expected += (n >> p + 1 << p) + (n & (1 << p) - 1 if n >> p & 1 else 0)
            self.gives(ones_in_all(n), expected)

    def test_powers(self):
        for p in [1, 2, 64, 65, 70, 300, Far.power(2**70), Far.power(Far.power(2**70)) + 5]:
            self.gives(ones_in_all(Far.power(p)), p * Far.power(p - 1))
            self.gives(ones_in_all(Far.power(p) - 1), p * Far.power(p - 1) - p)
            self.gives(ones_in_all(Far.power(p) + 1), p * Far.power(p - 1) + 1)

    def test_one_after_another(self):
        for x in far_numbers("ones in all far", 20, 8, 100):
            n = abs(x)
            many = ones_in_all(n)
            for _ in range(3):
                self.gives(ones_in_all(n + 1), many + ones(n))
                n = n + 1
                many = ones_in_all(n)

    def test_halves(self):
        # Of the integers below 2 * n one half has one more one than the other.
        for x in far_numbers("ones in all halves", 20, 8, 100):
            n = abs(x)
            self.gives(ones_in_all(2 * n), 2 * ones_in_all(n) + n)

    def test_errors(self):
        for value in NO_NUMBERS:
            self.raises(NotANumber, {"value": value}, ones_in_all, value)
        for n in [-1, Far(-1), -2**70, -Far.power(2**70)]:
            self.raises(InvalidCount, {"count": n}, ones_in_all, n)
        high = Far(model.tower(6))
        self.gives(ones_in_all(high), Far.power(high.low - 1) * high.low)

    def test_never_too_many_terms(self):
        n = Far(model.spread(1998, 0))
        with self.assertRaises(TooLarge):
            ones_in_all(n)
        n = Far(model.spread(1998, 0)[:900])
        expected = 0
        value = n.whole()
        for p in range(value.bit_length()):
            expected += (value >> p + 1 << p) + (value & (1 << p) - 1 if value >> p & 1 else 0)
        self.gives(ones_in_all(n), expected)
        self.gives(holders(-n, n, 5), n)
        self.gives(distance(n, 0), 900)


class Carries(Case):
    def test_ints(self):
        for x in EDGES + list(range(-12, 12)):
            for y in EDGES + list(range(-12, 12)):
                expected = carries_of(x, y)
                self.assertEqual(x + y, x ^ y ^ expected)
                self.gives(carries(x, y), expected)
                self.gives(carries(Far(x), Far(y)), expected)
                self.assertIs(is_sum(x, Far(y), x + y, expected), True)

    def test_long_ints(self):
        source = model.source_of("carries")
        for _ in range(150):
            x, y = [model.random_int(source, source.choice([65, 200, 900])) for _ in range(2)]
            self.gives(carries(x, y), x ^ y ^ (x + y))

    def test_far(self):
        source = model.source_of("far carries")
        for _ in range(60):
            x, y = [model.random_model(source, 20) for _ in range(2)]
            far_x, far_y, z = [Far(model.far_form(value)) for value in (x, y, x + y)]
            c = Far(model.far_form(x ^ y ^ (x + y)))
            self.gives(carries(far_x, far_y), c)
            self.gives(carries(y=far_x, x=far_y), c)
            self.assertIs(is_sum(far_x, far_y, z, c), True)
            self.assertIs(is_sum(far_x, far_y, z + 1, c), False)
            self.assertIs(is_sum(far_x, far_y, z, c + 1), False)
            self.assertIs(is_sum(z=z, c=c, y=far_x, x=far_y), True)

    def test_bit_by_bit(self):
        numbers = far_numbers("bits of carries", 12)
        for x, y in zip(numbers, numbers[1:]):
            c = carries(x, y)
            self.assertEqual(c[0], 0)
            self.assertEqual(x + y, x ^ y ^ c)
            for p in [turn + k for turn in (x.turns() + y.turns())[-20:] for k in (0, 1)]:
                self.assertEqual(c[p + 1], int(x[p] + y[p] + c[p] >= 2))

    def test_is_sum_of_any_values(self):
        for value in NO_NUMBERS + [(64, 65), [0, 1, 3]]:
            self.assertIs(is_sum(1, 2, value, 0), False)
            self.assertIs(is_sum(1, 2, 3, value), False)
        self.assertIs(is_sum(1, 2, 3, 0), True)
        self.assertIs(is_sum(1, 0, True, 0), False)
        self.assertIs(is_sum(1, 2, 3, False), False)
        self.assertIs(is_sum(1, 1, 2, 2), True)
        self.assertIs(is_sum(1, 1, 2, 0), False)

    def test_is_sum_is_never_too_large(self):
        x = Far(model.spread(1998, 70))
        self.assertIs(is_sum(x, 1, 5, 0), False)
        self.assertIs(is_sum(x, WIDE, WIDE, 0), False)
        self.assertIs(is_sum(0, WIDE, WIDE, 0), True)
        self.assertIs(is_sum(WIDE, WIDE, 2 * WIDE, 2 * WIDE), True)
        high = Far(model.tower(6))
        self.assertIs(is_sum(high, high, WIDE, 0), False)
        with self.assertRaises(TooLarge):
            carries(WIDE, WIDE)

    def test_errors(self):
        for value in NO_NUMBERS:
            self.raises(NotANumber, {"value": value}, carries, value, None)
            self.raises(NotANumber, {"value": value}, carries, 5, value)
            self.raises(NotANumber, {"value": value}, is_sum, value, None, 5, 5)
            self.raises(NotANumber, {"value": value}, is_sum, 5, value, None, 5)

    def test_arguments_stay(self):
        x, y = Far((3, (64, 65))), Far((5, 7, (64, 65), (0, 1, 64, 65)))
        carries(x, y), distance(x, y), holders(x, y, 5), is_sum(x, y, x, y), ones_in_all(x), ones_below(x, y)
        self.assertEqual((x.form, y.form), ((3, (64, 65)), (5, 7, (64, 65), (0, 1, 64, 65))))


if __name__ == "__main__":
    unittest.main()
