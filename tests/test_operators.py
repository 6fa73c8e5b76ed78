"""[22], [2]: operators and comparisons of numbers."""

import operator
import unittest

from farbits.errors import InvalidPower, NegativeShift, NoPlace, NotANumber, NotPower
from farbits.errors import TooLarge, TooManyTerms
from farbits.far import Far
from tests import model

TWO = [operator.add, operator.sub, operator.mul, operator.and_, operator.or_, operator.xor]
COMPARISONS = [operator.lt, operator.le, operator.gt, operator.ge, operator.eq, operator.ne]
EDGES = [0, 1, -1, 2, 3, -5, 6, 64, 2**63, 2**64 - 1, 2**64, 2**64 + 1, -2**64, -2**64 - 1,
         -2**64 + 1, 2**70 + 5, -2**100 + 2**70]
OTHERS = [None, True, False, "5", b"5", (5,), [5], {}, 1.0, object()]
WIDE = int("10" * 1100, 2)


class Case(unittest.TestCase):
    def raises(self, error, field, value, function, *arguments):
        with self.assertRaises(error) as caught:
            function(*arguments)
        self.assertIs(type(caught.exception), error)
        self.assertIs(getattr(caught.exception, field), value)

    def pairs(self, x, y):
        """Two ints as the sides of an operator, of which at least one is a Far."""
        return [(Far(x), Far(y)), (Far(x), y), (x, Far(y))]

    def gives(self, result, value):
        self.assertIs(type(result), Far)
        self.assertEqual(result.form, model.form(value))


class Ints(Case):
    def test_two_numbers(self):
        for x in EDGES:
            for y in EDGES:
                for function in TWO:
                    for left, right in self.pairs(x, y):
                        self.gives(function(left, right), function(x, y))

    def test_shifts(self):
        for x in EDGES:
            for s in [0, 1, 2, 63, 64, 65, 100]:
                for left, right in self.pairs(x, s):
                    self.gives(left << right, x << s)
                    self.gives(left >> right, x >> s)
                    self.gives(left // (1 << right), x >> s)

    def test_quotients(self):
        for x in EDGES:
            for p in [0, 1, 2, 63, 64, 65, 100]:
                for left, right in self.pairs(x, 2**p):
                    self.gives(left // right, x // 2**p)

    def test_powers(self):
        for x in [0, 1, -1, 2, -2, 3, 10]:
            for n in [0, 1, 2, 3, 5, 17]:
                self.gives(Far(x) ** n, x**n)
                self.gives(Far(x) ** Far(n), x**n)
        self.gives(Far(2) ** 64, 2**64)
        self.gives(Far(2) ** 65, 2**65)
        self.gives(Far(3) ** 64, 3**64)
        self.assertEqual((Far(2) ** 2**70).form, ((70, 71), (0, 1, 70, 71)))

    def test_one_number(self):
        for x in EDGES:
            self.gives(-Far(x), -x)
            self.gives(+Far(x), x)
            self.gives(~Far(x), ~x)
            self.gives(abs(Far(x)), abs(x))

    def test_comparisons(self):
        for x in EDGES:
            for y in EDGES:
                for function in COMPARISONS:
                    for left, right in self.pairs(x, y):
                        self.assertIs(function(left, right), function(x, y))

    def test_bool(self):
        for x in EDGES:
            self.assertIs(bool(Far(x)), x != 0)
        self.assertIs(bool(Far.power(2**70)), True)

    def test_bits(self):
        for x in EDGES:
            for p in [0, 1, 2, 62, 63, 64, 65, 66, 70, 99, 100, 101]:
                self.assertEqual(Far(x)[p], x >> p & 1)
                self.assertEqual(Far(x)[Far(p)], x >> p & 1)
                self.assertIs(type(Far(x)[p]), int)
        self.assertEqual(Far(-1)[Far.power(2**70)], 1)
        self.assertEqual(Far(5)[Far.power(2**70)], 0)

    def test_long_ints(self):
        source = model.source_of("operators of long ints")
        for _ in range(60):
            x, y = [model.random_int(source, 900) for _ in range(2)]
            for function in [operator.add, operator.sub, operator.and_, operator.or_, operator.xor]:
                for left, right in self.pairs(x, y):
                    self.gives(function(left, right), function(x, y))


class FarNumbers(Case):
    def test_against_models(self):
        source = model.source_of("operators")
        for _ in range(25):
            x = model.random_model(source, 20)
            y = model.random_model(source, 20)
            small = source.randrange(-99, 99)
            far_x, far_y = [Far(model.far_form(value)) for value in (x, y)]
            for function in [operator.add, operator.sub, operator.and_, operator.or_, operator.xor]:
                self.assertEqual(function(far_x, far_y).form, model.far_form(function(x, y)))
                self.assertEqual(function(far_x, small).form, model.far_form(function(x, small)))
                self.assertEqual(function(small, far_y).form, model.far_form(function(small, y)))
            for function in COMPARISONS:
                self.assertIs(function(far_x, far_y), function(x, y))
                self.assertIs(function(far_x, small), function(x, small))
                self.assertIs(function(small, far_y), function(small, y))
                self.assertIs(function(far_x, +far_x), function(x, x))
            self.assertEqual((-far_x).form, model.far_form(-x))
            self.assertEqual((~far_x).form, model.far_form(~x))
            self.assertEqual(abs(far_x).form, model.far_form(abs(x)))
            self.assertEqual((far_x * 3).form, model.far_form(x * 3))
            self.assertEqual((-5 * far_x).form, model.far_form(x * -5))

    def test_shifts_and_quotients(self):
        p = Far.power(2**70)
        x = (Far.power(p) - 5) * 3
        self.assertEqual((x << p) >> p, x)
        self.assertEqual(x << p, x * Far.power(p))
        self.assertEqual((x << p) // Far.power(p), x)
        self.assertEqual(x >> p, 2)
        self.assertEqual(1 << p, Far.power(p))
        self.assertEqual(5 >> p, 0)
        self.assertEqual(-5 >> p, -1)
        self.assertEqual(-5 // Far.power(p), -1)
        self.assertEqual(Far(2) ** p, Far.power(p))
        self.assertEqual((x ** 2), x * x)

    def test_equal_by_value(self):
        p = Far.power(2**70)
        self.assertTrue(Far.power(p) + 1 - 1 == Far.power(p))
        self.assertTrue(Far(5) == 5 and 5 == Far(5))
        self.assertTrue(Far(2**70) == 2**70 and 2**70 == Far(2**70))
        self.assertFalse(Far(1) == True)  # noqa: E712
        self.assertFalse(True == Far(1))  # noqa: E712
        self.assertTrue(Far(1) != True)  # noqa: E712
        self.assertFalse(Far(0) == False)  # noqa: E712
        for other in OTHERS + [(), (64, 65), [64, 65]]:
            for x in [Far(0), Far(5), Far(2**64)]:
                self.assertIs(x == other, False)
                self.assertIs(other == x, False)
                self.assertIs(x != other, True)

    def test_a_new_number_for_the_variable(self):
        x = kept = Far(5)
        x += 1
        self.assertEqual((x, kept), (6, 5))
        x -= Far(2)
        x *= 12
        x //= 16
        x <<= 70
        x >>= 69
        x &= 7
        x |= 9
        x ^= 1
        x **= 2
        self.assertEqual((x, kept), (14 ** 2, 5))
        self.assertIs(type(x), Far)
        n = 7
        n += Far(1)
        self.assertIs(type(n), Far)
        n = 7
        n <<= Far(70)
        self.assertEqual(n, 7 << 70)


class Errors(Case):
    def test_other_operands(self):
        x = Far(5)
        for other in OTHERS:
            for function in TWO + [operator.lshift, operator.rshift, operator.floordiv, operator.pow,
                                   operator.lt, operator.le, operator.gt, operator.ge]:
                with self.subTest(function=function, other=other):
                    with self.assertRaises(TypeError):
                        function(x, other)
                    with self.assertRaises(TypeError):
                        function(other, x)

    def test_no_int_on_the_left_of_a_power(self):
        with self.assertRaises(TypeError):
            2 ** Far(3)

    def test_other_operators_are_not_defined(self):
        for function in [operator.mod, operator.truediv, divmod]:
            with self.assertRaises(TypeError):
                function(Far(5), 2)
            with self.assertRaises(TypeError):
                function(5, Far(2))

    def test_negative_shifts(self):
        for amount in [-1, Far(-1), -2**64 - 1, -Far.power(2**70)]:
            for x in [Far(0), Far(5), Far.power(2**70)]:
                self.raises(NegativeShift, "amount", amount, operator.lshift, x, amount)
                self.raises(NegativeShift, "amount", amount, operator.rshift, x, amount)
        amount = Far(-1)
        self.raises(NegativeShift, "amount", amount, operator.lshift, 5, amount)
        self.raises(NegativeShift, "amount", amount, operator.rshift, 5, amount)

    def test_divisors(self):
        for y in [0, -1, 3, 6, -2, 2**64 - 1, 2**64 + 1, -2**64, Far(0), Far(3), -Far.power(2**70)]:
            for x in [Far(0), Far(5), Far.power(2**70)]:
                self.raises(NotPower, "value", y, operator.floordiv, x, y)
        for y in [Far(0), Far(3), Far(-1), Far.power(2**70) + 1]:
            self.raises(NotPower, "value", y, operator.floordiv, 5, y)

    def test_exponents(self):
        for n in [-1, 65, Far(-1), Far(65), 2**64, Far.power(2**70), -2**70]:
            for x in [Far(0), Far(1), Far(3), Far(-2), Far.power(2**70)]:
                self.raises(InvalidPower, "exponent", n, operator.pow, x, n)
        for n in [-1, Far(-1), -2**70, -Far.power(2**70)]:
            self.raises(InvalidPower, "exponent", n, operator.pow, Far(2), n)

    def test_bits(self):
        for value in OTHERS + [slice(0, 3)]:
            self.raises(NotANumber, "value", value, operator.getitem, Far(5), value)
        for place in [-1, Far(-1), -2**70, -Far.power(2**70)]:
            self.raises(NoPlace, "place", place, operator.getitem, Far(5), place)

    def test_too_many_terms(self):
        for x, y in [(Far(model.spread(301)), 1), (1, Far(model.spread(301))),
                     (Far(model.spread(43)), Far(model.spread(14)))]:
            with self.assertRaises(TooManyTerms) as caught:
                operator.mul(x, y)
            self.assertEqual(caught.exception.terms, 602)
        with self.assertRaises(TooManyTerms) as caught:
            Far(model.spread(25)) ** 2
        self.assertEqual(caught.exception.terms, 625)

    def test_too_large(self):
        x = Far(model.spread(1999))
        high = Far(model.tower(6))
        for function in [lambda: x + 1, lambda: 1 + x, lambda: ~x, lambda: x ^ -1, lambda: -1 ^ x,
                         lambda: x - 2**64 + 1, lambda: -1 - x,
                         lambda: x | 1, lambda: 1 | x, lambda: Far(-1) & x ^ -1, lambda: x >> 0 ^ -1]:
            with self.assertRaises(TooLarge) as caught:
                function()
            self.assertGreater(caught.exception.parts, 2000)
            self.assertEqual(caught.exception.levels, 1)
        self.assertEqual((x + 0).form, x.form)
        for function in [lambda: 1 << high, lambda: Far(2) ** high, lambda: Far(3) << high]:
            with self.assertRaises(TooLarge) as caught:
                function()
            self.assertEqual(caught.exception.levels, 7)

    def test_negation_and_abs_of_the_largest(self):
        # -x has the turns of x, but place 71 is one of exactly one of the two.
        x = Far(model.spread(1999, 70, 1))
        self.assertEqual((x.size, x.sign), (2000, -1))
        self.assertEqual(abs(x), -x)
        self.assertEqual(abs(x).size, 1999)
        self.assertEqual((+x).form, x.form)
        x = Far(model.spread(1999, 70, 2))
        for function in [operator.neg, abs]:
            with self.assertRaises(TooLarge) as caught:
                function(x)
            self.assertEqual(vars(caught.exception), {"parts": 2001, "levels": 1})
        x = Far(model.spread(1998, 70, 2))
        self.assertEqual(abs(x).form, x.form)
        self.assertEqual((-x).size, 2000)

    def test_ints_that_are_only_passed_are_not_judged(self):
        self.assertEqual(Far(1) & WIDE, 0)
        self.assertEqual(WIDE & Far(2), 2)
        self.assertEqual(Far(WIDE & -2**300) - (WIDE & -2**300), 0)
        self.assertEqual((Far(2**2200) | WIDE & -2**300) // 2**2190, (2**2200 | WIDE) // 2**2190)
        self.assertTrue(Far(5) < WIDE)
        self.assertFalse(Far(5) == WIDE)
        self.assertEqual(Far(1)[WIDE], 0)
        self.assertEqual(Far(1) >> WIDE, 0)
        with self.assertRaises(TooLarge) as caught:
            Far(0) + WIDE
        self.assertEqual(vars(caught.exception), {"parts": 2201, "levels": 1})

    def test_not_iterated_over_and_no_key(self):
        for x in [Far(0), Far(5), Far(2**70)]:
            with self.assertRaises(TypeError):
                list(x)
            with self.assertRaises(TypeError):
                for _ in x:
                    pass
            with self.assertRaises(TypeError):
                5 in x
            with self.assertRaises(TypeError):
                hash(x)
            with self.assertRaises(TypeError):
                {x: 1}
            with self.assertRaises(TypeError):
                len(x)

    def test_numbers_never_change(self):
        x, y = Far((3, (64, 65))), Far((5, 70))
        for function in TWO + COMPARISONS:
            function(x, y)
        x << y.length, x >> y.length, x ** 2, -x, ~x, +x, abs(x), x[5], x // 8, str(x)
        self.assertEqual((x.form, y.form), ((3, (64, 65)), (5, 70)))


if __name__ == "__main__":
    unittest.main()
