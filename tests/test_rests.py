"""[30], [31]: rests by short moduli, last digits, and levels."""

import unittest

from farbits.errors import InvalidCount, InvalidLevels, NotANumber, NotShort, TooLarge
from farbits.far import Far
from farbits.rests import divides, is_levels, last_digits, periods, rest, rest_by
from tests import model
from tests.test_counting import NO_NUMBERS, WIDE, Case, both_kinds, far_numbers

XS = [0, 1, -1, 5, -40, 999983, 2**63, 2**64 - 1, 2**64, 2**64 + 1, -2**64, -2**64 - 1, 2**70 + 5,
      -2**200 + 77, 3**300, -3**300, 2**128, 2**128 + 1, 2**256 - 1, -2**32]
SMALL = list(range(1, 130)) + [641, 997, 1000, 1024, 4095, 4096, 65535, 65536, 65537, 99999, 524288,
                               999983, 999999, 1000000]
DOUBLE = [sign + 2**2**k for k in range(11) for sign in (1, -1)]
POWERS = [2**p for p in [0, 1, 19, 20, 21, 40, 63, 64, 65, 128, 3000]]


class Rest(Case):
    def test_examples(self):
        self.gives(rest(-1, 2**64 + 1), 2**64)
        self.assertEqual(last_digits(-7, 3), "007")

    def test_ints(self):
        for x in XS:
            for m in SMALL + DOUBLE + POWERS:
                self.gives(rest(x, m), x % m)
                self.assertIs(divides(m, x), x % m == 0)
        for x in XS[:8]:
            for m in [12, 2**64 + 1, 2**40]:
                for given in both_kinds(x):
                    self.gives(rest(given, Far(m)), x % m)
                    self.gives(rest(given, m), x % m)

    def test_multiples(self):
        for m in SMALL + DOUBLE + POWERS:
            for many in [0, 1, -1, 3, 1000, -2**70]:
                self.assertIs(divides(m, m * many), True)
                self.gives(rest(m * many, m), 0)
                if m > 1:
                    self.assertIs(divides(m, m * many + 1), False)
                    self.gives(rest(m * many - 1, m), m - 1)

    def test_far_by_small_moduli(self):
        for x in far_numbers("small moduli", 40):
            for m in [1, 2, 3, 7, 12, 100, 641, 997, 1000, 1024]:
                self.gives(rest(x, m), model.rest(x.form, m))
                self.assertIs(divides(m, x), model.rest(x.form, m) == 0)
        x = Far(model.tower(6)) - 1
        for m in [3, 5, 17, 257, 65537, 999999, 1000000, 999983, 531441, 524288, 786432]:
            self.gives(rest(x, m), model.rest(x.form, m))

    def test_far_by_far_moduli(self):
        k = Far.power(2**70)
        double = Far.power(Far.power(k))
        for m in [Far.power(k), Far.power(k + 5), double, double - 1, double + 1, Far(2**64 - 1), Far(2**128 + 1)]:
            for x in far_numbers("far moduli", 15, 10) + [m - 1, -m, m * 5 + 3, Far(5), Far(-5)]:
                found = rest(x, m)
                self.assertTrue(0 <= found < m)
                self.gives(rest(m * 5 + x, m), found)
                self.assertIs(divides(m, x), found == 0)
                self.assertIs(divides(m, x - found), True)
                # The rests of the powers of two, which have a test of their own.
                turns = x.turns()
                powers = [rest(Far.power(turn), m) * (1 if k % 2 else -1) for k, turn in enumerate(turns)]
                self.gives(rest(sum(powers, Far(0)), m), found)

    def test_powers_of_two_by_double_powers(self):
        k = Far.power(2**70)
        n = Far.power(k)
        below, above = Far.power(n) - 1, Far.power(n) + 1
        for t in [Far(0), Far(5), k, n - 1]:
            for rounds in [0, 1, 2, 3, 4, 5, n, n + 1, n * 2 + 2]:
                power = Far.power(t + n * rounds)
                self.gives(rest(power, below), Far.power(t))
                odd = Far(rounds)[0] == 1
                self.gives(rest(power, above), above - Far.power(t) if odd else Far.power(t))
        self.gives(rest(Far.power(n), above), Far.power(n))
        self.gives(rest(-1, above), Far.power(n))
        self.gives(rest(-1, below), below - 1)
        self.gives(rest(below, below), 0)
        self.gives(rest(Far.power(n), below), 1)
        self.gives(rest(5, above), 5)

    def test_pieces_that_add_up_to_the_modulus(self):
        far = Far.power(2**70)
        for n in [Far(32), Far(64), Far(128), far, Far.power(far)]:
            half = Far.power(n - 1) - 1
            # The pieces of n bits are half, half and 1: together 2**n - 1.
            x = half + (half << n) + Far.power(2 * n)
            m = Far.power(n) - 1
            self.gives(rest(x, m), 0)
            self.assertIs(divides(m, x), True)
            self.gives(rest(x + 1, m), 1)
            self.gives(rest(x - 1, m), m - 1)
            self.gives(rest(-x, m), 0)
            self.gives(rest(half + 1 + (half << n) + Far.power(3 * n + 1), m), 2)

    def test_against_ints(self):
        source = model.source_of("rests")
        for _ in range(60):
            x = model.random_int(source, 900)
            for m in [2**32 - 1, 2**32 + 1, 2**64 - 1, 2**64 + 1, 2**128 - 1, 2**128 + 1, 2**512 + 1, 2**512 - 1,
                      2**100, 999999, source.randrange(1, 1000001)]:
                self.gives(rest(x, m), x % m)

    def test_moduli_that_are_not_short(self):
        far = Far.power(2**70)
        wrong = [0, -1, -5, 1000001, 1000003, 2**20 - 1, 2**20 + 1, 3 * 2**30, 2**33 + 1, 2**63 - 1, 2**65 - 1,
                 -2**64, -2**70, 2**64 + 2, 2**64 - 2, 2**64 + 3, far + 2, far - 2, -far, Far(0), Far(1000001),
                 Far.power(far + 1) + 1, Far.power(far * 3) - 1, Far.power(5 * far) + 1, 1 - Far.power(far)]
        for m in wrong:
            self.raises(NotShort, {"modulus": m}, rest, 5, m)
            self.raises(NotShort, {"modulus": m}, divides, m, 5)
            self.raises(NotShort, {"modulus": m}, divides, m, None)
        for m in [1, 1000000, 2**20, 2**32 - 1, 2**32 + 1, far, Far.power(far) + 1, Far.power(far) - 1]:
            self.gives(rest(0, m), 0)

    def test_errors(self):
        for value in NO_NUMBERS:
            self.raises(NotANumber, {"value": value}, rest, value, 0)
            self.raises(NotANumber, {"value": value}, rest, 5, value)
            self.raises(NotANumber, {"value": value}, divides, value, None)
            self.raises(NotANumber, {"value": value}, divides, 5, value)
        self.raises(NotShort, {"modulus": 1000001}, divides, 1000001, None)
        self.gives(rest(m=7, x=10), 3)
        self.assertIs(divides(x=10, m=5), True)

    def test_only_a_rest_is_judged(self):
        q = Far(model.spread(998, 70))
        n = Far.power(Far.power(2**70))
        m = Far.power(Far.power(Far.power(2**70)))
        with self.assertRaises(TooLarge):
            rest(WIDE, m)
        self.assertIs(divides(m, WIDE), False)
        self.assertIs(divides(m + 1, WIDE), False)
        self.assertIs(divides(m - 1, WIDE), False)
        self.assertIs(divides(n, Far.power(n) - Far.power(Far.power(2**70))), True)
        self.assertIs(divides(m, q), False)
        self.gives(rest(WIDE, 1000), WIDE % 1000)


class LastDigits(Case):
    def test_ints(self):
        for x in XS:
            for n in range(1, 7):
                expected = str(abs(x))[-n:].zfill(n)
                self.assertEqual(last_digits(x, n), expected)
                self.assertEqual(last_digits(Far(x), n), expected)
        self.assertEqual(last_digits(n=2, x=1234), "34")

    def test_far(self):
        for x in far_numbers("digits", 20):
            for n in range(1, 5):
                digits = model.rest(abs(x).form, 10**n)
                self.assertEqual(last_digits(x, n), str(digits).zfill(n))
        self.assertEqual(last_digits(Far(model.tower(6)), 6), str(model.rest(model.tower(6), 10**6)).zfill(6))

    def test_errors(self):
        for value in NO_NUMBERS:
            self.raises(NotANumber, {"value": value}, last_digits, value, None)
            self.raises(InvalidCount, {"count": value}, last_digits, 5, value)
        for n in [0, 7, -1, 2**70, Far(3), Far(0)]:
            self.raises(InvalidCount, {"count": n}, last_digits, 5, n)
        self.assertEqual(last_digits(WIDE, 6), str(WIDE)[-6:])


def order_of_two(odd):
    power, period = 2 % odd, 1
    while power != 1 % odd:
        power, period = power * 2 % odd, period + 1
    return period


def reference_periods(m):
    levels = []
    while True:
        two = 0
        while m % 2**(two + 1) == 0:
            two += 1
        odd = m // 2**two
        levels.append((m, two, odd, order_of_two(odd)))
        if odd == 1:
            return tuple(levels)
        m = levels[-1][3]


TWELVE = ((12, 2, 3, 2), (2, 1, 1, 1))


class Levels(Case):
    def test_examples(self):
        self.assertEqual(periods(1), ((1, 0, 1, 1),))
        self.assertEqual(periods(100), ((100, 2, 25, 20), (20, 2, 5, 4), (4, 2, 1, 1)))
        self.assertIs(is_levels(12, ((12, 2, 3, 4), (4, 2, 1, 1))), True)

    def test_periods(self):
        source = model.source_of("periods")
        moduli = list(range(1, 400)) + [source.randrange(1, 1000001) for _ in range(30)]
        for m in moduli + [1000000, 999999, 999983, 524287, 524288, 786432, 531441, 65537]:
            levels = periods(m)
            self.assertEqual(levels, reference_periods(m))
            self.assertIs(type(levels), tuple)
            self.assertTrue(all(type(level) is tuple for level in levels))
            self.assertTrue(all(type(number) is int for level in levels for number in level))
            self.assertIs(is_levels(m, levels), True)
        self.assertEqual(periods(m=6), periods(6))

    def test_no_moduli(self):
        for m in NO_NUMBERS + [0, -1, 1000001, 2**64, Far(5), Far(100), 2**70]:
            self.raises(NotShort, {"modulus": m}, periods, m)
            self.assertIs(is_levels(m, periods(5)), False)
        self.assertIs(is_levels(True, ((1, 0, 1, 1),)), False)
        self.assertIs(is_levels(Far(1), ((1, 0, 1, 1),)), False)
        self.assertIs(is_levels(levels=((1, 0, 1, 1),), m=1), True)

    def test_multiples_of_the_least_periods(self):
        for levels in [((12, 2, 3, 4), (4, 2, 1, 1)), ((12, 2, 3, 4), (4, 2, 1, 77)),
                       ((12, 2, 3, 6), (6, 1, 3, 6), (6, 1, 3, 6), (6, 1, 3, 2), (2, 1, 1, 1000000)),
                       ((12, 2, 3, 1000000), *periods(1000000)), ((12, 2, 3, 999998), *periods(999998))]:
            self.assertIs(is_levels(12, levels), True)
            for x in XS + far_numbers("levels", 5):
                self.gives(rest_by(x, levels), rest(x, 12))
        self.assertIs(is_levels(1, ((1, 0, 1, 1000000),)), True)
        self.assertIs(is_levels(524288, ((524288, 19, 1, 5),)), True)

    def test_many_levels(self):
        levels = ((6, 1, 3, 6),) * 3000 + ((6, 1, 3, 2), (2, 1, 1, 1))
        self.assertIs(is_levels(6, levels), True)
        for x in far_numbers("many levels", 5):
            self.gives(rest_by(x, levels), rest(x, 6))

    def test_no_levels(self):
        good = [list(level) for level in TWELVE]
        wrong = [None, True, 5, "ab", (), [], {}, Far(12), list(TWELVE), tuple(good), TWELVE[0], (TWELVE,),
                 (TWELVE[0],), (TWELVE[1], TWELVE[0]), TWELVE + ((1, 0, 1, 1),), (None,), ((12, 2, 3),),
                 ((12, 2, 3, 2, 1), (2, 1, 1, 1)), ((12, 2, 3, 3), (3, 0, 3, 2), (2, 1, 1, 1)),
                 ((12, 2, 3, 0), (0, 0, 1, 1)), ((12, 1, 6, 2), (2, 1, 1, 1)), ((12, 2, 3, 2), (2, 0, 2, 1)),
                 ((12, 2, 3, 4), (2, 1, 1, 1)), ((12, 3, 3, 2), (2, 1, 1, 1)), ((12, 2, 3, 2), (2, 1, 1, 0)),
                 ((12, 2, 3, 2), (2, 1, True, 1)), ((12, 2, 3, 2), (2, True, 1, 1)), ((12, 2, 3, Far(2)), (2, 1, 1, 1)),
                 ((Far(12), 2, 3, 2), (2, 1, 1, 1)), ((12, 2, 3, 2), (2, 1, 1, 1000001)), ((12, -2, 3, 2), (2, 1, 1, 1)),
                 ((12, 2, 3, -2), (2, 1, 1, 1)), ((12, 2, 3, 1000002), (1000002, 1, 500001, 1)),
                 ((12, 2, 3, "2"), (2, 1, 1, 1)), ((2000000, 7, 15625, 12500), *periods(12500)),
                 ((0, 0, 0, 1),), ((0, 20, 0, 1),), ((1, 0, 1, 1), (1, 0, 1, 1)), ((12, 2, 3, 2), [2, 1, 1, 1]),
                 ((2**20, 20, 1, 1),), ((2**21, 21, 1, 1),), ((2**19, 20, 1, 1),), ((12, 2, 3, 2), (2, 1, 1)), ((6, 1, 3, 2), (2, 1, 1, 1), (1, 0, 1, 1)),
                 ((-12, 2, -3, 2), (2, 1, 1, 1)), ((12, 2, 3, 2.0), (2, 1, 1, 1)),
                 ((12, -1, 3, 2), (2, 1, 1, 1)), ((-1, 0, -1, 1), (1, 0, 1, 1)), ((12, 2, 3, -1), (-1, 0, -1, 1)),
                 ((1, 21, 1, 1),), ((12, 2**70, 3, 2), (2, 1, 1, 1))]
        for levels in wrong:
            with self.subTest(levels=levels):
                for m in [12, 1, 2, 6]:
                    self.assertIs(is_levels(m, levels), False)
                self.raises(InvalidLevels, {"value": levels}, rest_by, 5, levels)
        for m in [2, 3, 24, 0, -12, None, Far(12)]:
            self.assertIs(is_levels(m, TWELVE), False)
        self.assertIs(is_levels(12, TWELVE), True)

    def test_rest_by(self):
        for m in [1, 2, 3, 12, 100, 997, 1024, 999999, 1000000]:
            for x in XS + far_numbers("rest by", 5):
                self.gives(rest_by(x, periods(m)), rest(x, m))
        self.gives(rest_by(levels=TWELVE, x=Far(-1)), 11)
        for value in NO_NUMBERS:
            self.raises(NotANumber, {"value": value}, rest_by, value, None)
        self.gives(rest_by(WIDE, TWELVE), WIDE % 12)


if __name__ == "__main__":
    unittest.main()
