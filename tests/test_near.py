"""[12], [13], [14], [24] to [26], [31]: numbers around the places from which on the
package computes with turns in the place of ints, and numbers of many turns.
"""

import unittest

from farbits import raw
from farbits.counting import carries, distance, highest_difference, holders, is_sum, kth_one, kth_zero
from farbits.counting import one_from, ones, ones_below, ones_in_all, zeros_below
from farbits.errors import Endless, FarError, InvalidRange
from farbits.far import Far
from farbits.rests import periods, rest, rest_by
from farbits.turns import FAR_PLACE, MANY_TURNS, NEAR_PLACE, int_of_rows, int_of_turns, turns_of_int
from tests import model
from tests.test_counting import Case

LENGTHS = [66, 100, NEAR_PLACE - 3, NEAR_PLACE + 3, 2 * NEAR_PLACE, 3990, FAR_PLACE - 3, FAR_PLACE + 3, 6500]


def drawn_int(source, length, most):
    """An int of about a length, of any sign, with so many turns at most."""
    many = source.choice([2, 3, MANY_TURNS - 1, MANY_TURNS, MANY_TURNS + 1, 2 * MANY_TURNS, 100, 600])
    places = {source.randrange(length + 3) for _ in range(min(many, most))} | {length + source.randrange(-3, 4)}
    value = 0
    for place in places:
        value ^= -1 << place
    return value


def place_sum(n):
    """ones_in_all(n), place by place."""
    total = 0
    for p in range(n.bit_length()):
        total += n >> p + 1 << p
        if n >> p & 1:
            total += n & (1 << p) - 1
    return total


def far_of(value):
    return Far(model.int_turns(value))


class Conversions(unittest.TestCase):
    def test_turns_of_ints(self):
        source = model.source_of("conversions")
        for length in LENGTHS:
            for _ in range(20):
                value = drawn_int(source, length, 600)
                turns = model.int_turns(value)
                self.assertEqual(turns_of_int(value), turns)
                self.assertEqual(int_of_turns(turns), value)
                if len(turns) > MANY_TURNS:
                    self.assertEqual(int_of_rows(turns), value)
        for value in range(-600, 600):
            turns = model.int_turns(value)
            self.assertEqual(turns_of_int(value), turns)
            self.assertEqual(int_of_turns(turns), value)


class Operators(Case):
    def same(self, function, expected):
        try:
            found = function()
        except FarError as e:
            self.assertIn(type(e).__name__, ["TooLarge", "TooManyTerms"])
        else:
            self.assertEqual(found.form, model.form(expected))

    def test_operators(self):
        source = model.source_of("near operators")
        for length in LENGTHS:
            for _ in range(24):
                x, y = drawn_int(source, length, 600), drawn_int(source, source.choice(LENGTHS), 600)
                y = source.choice([y, y, x ^ 1 << 7, source.randrange(-99, 99)])
                a, b = far_of(x), far_of(y)
                for one, other, near, there in [(a, b, x, y), (b, a, y, x)]:
                    self.same(lambda: one + other, near + there)
                    self.same(lambda: one - other, near - there)
                    self.same(lambda: one & other, near & there)
                    self.same(lambda: one | other, near | there)
                    self.same(lambda: one ^ other, near ^ there)
                    self.same(lambda: one * other, near * there)
                    self.same(lambda: carries(one, other), near ^ there ^ (near + there))
                    self.assertIs(one < other, near < there)
                    self.assertIs(is_sum(one, other, 5, 5), False)
                for s in [0, 1, 63, 64, 65, length - 1, length, length + 1, 2**64 - 70, 2**64 - length - 1, 2**64]:
                    self.same(lambda: a >> s, x >> s if s < 9999 else -1 if x < 0 else 0)
                    self.same(lambda: (a << s) >> s, x)
                    if s < 9999:
                        self.same(lambda: a << s, x << s)

    def test_products_in_the_two_ways(self):
        source = model.source_of("near products")
        for _ in range(40):
            x, y = [model.form(drawn_int(source, source.choice([66, 1200, 4900]), 40)) for _ in range(2)]
            self.assertEqual(raw.times(x, y), model.form(model.value_of(x) * model.value_of(y)))


class Counts(Case):
    def test_counts(self):
        source = model.source_of("near counts")
        for length in LENGTHS:
            for _ in range(8):
                x, y = drawn_int(source, length, 300), drawn_int(source, source.choice(LENGTHS), 300)
                a, b = far_of(x), far_of(y)
                p = source.randrange(length + 9)
                many = bin(x & (1 << p) - 1).count("1")
                for given in [a, x] if length < 4000 else [a]:
                    self.gives(ones_below(given, p), many)
                    self.gives(zeros_below(given, p), p - many)
                    self.gives(ones_below(given, 2**64 + 5), 2**64 + 5 - bin(~x).count("1") if x < 0 else bin(x).count("1"))
                    if x >> p & 1:
                        self.gives(kth_one(given, many), p)
                        self.gives(one_from(given, p), p)
                    else:
                        self.gives(kth_zero(given, p - many), p)
                    if x < 0:
                        self.raises(Endless, {"value": given}, ones, given)
                        zeros = bin(~x).count("1")
                        for k in [2**64 - 1 - zeros, 2**64 - zeros, 2**64 + 5, 2**64 - 1]:
                            self.gives(kth_one(given, k), k + zeros)
                    else:
                        self.gives(ones(given), bin(x).count("1"))
                if (x < 0) == (y < 0):
                    self.gives(distance(a, b), bin(x ^ y).count("1"))
                    self.gives(highest_difference(a, b), (x ^ y).bit_length() - 1 if x != y else None)
                else:
                    self.raises(Endless, {"value": b}, distance, a, b)

    def test_ints_and_far_numbers_mixed(self):
        source = model.source_of("mixed counts")
        for _ in range(60):
            x, y = [model.random_int(source, source.choice([40, 64, 66, 700])) for _ in range(2)]
            c = x ^ y ^ (x + y)
            for one in [x, Far(x)]:
                for other in [y, Far(y)]:
                    self.gives(carries(one, other), c)
                    for z in [x + y, Far(x + y)]:
                        self.assertIs(is_sum(one, other, z, c), True)
                        self.assertIs(is_sum(one, other, z, Far(c)), True)
                        self.assertIs(is_sum(one, other, z, c ^ 2), False)
                        self.assertIs(is_sum(one, other, z ^ 1, c), False)
                    if (x < 0) == (y < 0):
                        self.gives(distance(one, other), bin(x ^ y).count("1"))
                    if x <= y:
                        for p in [0, 3, 63, 64, 699, 701]:
                            expected = sum(part * ((n >> p + 1 << p) + ((n & (1 << p) - 1) if n >> p & 1 else 0))
                                           for n, part in [(y, 1), (x, -1)])
                            self.gives(holders(one, other, p), expected)
                        self.gives(holders(one, other, 2**64 + 9), (0 if y >= 0 else y) - (0 if x >= 0 else x))
                    else:
                        self.raises(InvalidRange, {"start": one, "stop": other}, holders, one, other, 5)


class OnesInAll(Case):
    def test_small_and_up_to_320_places(self):
        source = model.source_of("ones in all, place by place")
        numbers = list(range(300)) + [(1 << 320) // 3, 1 << 320, (1 << 320) - 1, (2 << 320) // 3 & ~1]
        for k in range(321):
            numbers += [1 << k, source.getrandbits(k + 1), abs(model.random_int(source, k + 1))]
        for n in numbers:
            self.gives(ones_in_all(n), place_sum(n))
            self.gives(ones_in_all(Far(n)), place_sum(n))

    def test_around_the_last_near_place(self):
        source = model.source_of("ones in all, farther")
        for length in LENGTHS:
            for _ in range(6):
                n = abs(drawn_int(source, length, 30))
                self.gives(ones_in_all(far_of(n)), far_of(place_sum(n)))


class Rests(Case):
    def test_rests(self):
        source = model.source_of("near rests")
        for length in LENGTHS:
            for _ in range(10):
                x = drawn_int(source, length, 600)
                m = source.choice([1, 2, 3, 12, 997, 1024, 65536, 999983, 720720, 524288, source.randrange(1, 10**6)])
                self.gives(rest_by(far_of(x), periods(m)), x % m)
                self.gives(rest(far_of(x), m), x % m)
                if length < 4000:
                    self.gives(rest_by(x, periods(m)), x % m)
                n = source.choice([1, 2, 8, 64, 128, 1024, 8192])
                self.gives(rest(far_of(x), far_of((1 << n) - 1)), far_of(x % ((1 << n) - 1)))
                self.gives(rest(far_of(x), far_of((1 << n) + 1)), far_of(x % ((1 << n) + 1)))

    def test_powers_of_two_by_all_exponents(self):
        for m in [3, 5, 12, 100, 997, 4096, 999983, 2**19 + 1]:
            levels = periods(m)
            power = 1
            for exponent in range(1200):
                self.gives(rest_by(Far.power(exponent), levels), power % m)
                power = 2 * power % m
            for exponent in [10**6, 2**40 + 7, 2**64 - 1]:
                self.gives(rest_by(Far.power(exponent), levels), pow(2, exponent, m))


if __name__ == "__main__":
    unittest.main()
