"""[13], [14], [4]: shifts, divisions, products and powers of forms."""

import unittest

from farbits.errors import InvalidPower, NegativeShift, NotPower, TooLarge
from farbits.errors import TooManyTerms
from farbits.forms import add, is_form, negate, order_of, size_of, subtract, successor
from farbits.forms import turns_of
from farbits.products import divide, multiply, power, shift_left, shift_right
from tests import model

FAR = (64, 65)
EDGES = [0, 1, -1, 2, 5, -6, 2**63, 2**64 - 1, 2**64, -2**64, -2**64 - 1, 2**66 + 5]
NEGATIVE = [-1, -2**64, (65,), (0, 64, 65), (model.tower(6),)]
NO_FORMS = [None, True, False, "2", "", [0, 1], [64, 65], {}, object(), 1.0, (), (0, 64),
            (65, 65), (64, 65.0), (None, 65), ([64], 65), (True, 65), (-1, 65), (64, None)]


class Case(unittest.TestCase):
    def raises(self, error, fields, function, *arguments):
        with self.assertRaises(error) as caught:
            function(*arguments)
        self.assertIs(caught.exception.__class__, error)
        self.assertEqual(vars(caught.exception), fields)

    def too_large(self, parts, levels, function, *arguments):
        self.raises(TooLarge, {"parts": parts, "levels": levels}, function, *arguments)


class Shifts(Case):
    def test_examples(self):
        self.assertEqual(shift_left(1, FAR), (FAR, (0, 1, 64, 65)))
        self.assertEqual(shift_left(0, FAR), 0)
        self.assertEqual(shift_right(-1, FAR), -1)

    def test_ints(self):
        for x in EDGES + list(range(-9, 10)):
            for s in [0, 1, 2, 3, 60, 64, 65, 66, 130]:
                self.assertEqual(shift_left(model.form(x), s), model.form(x << s))
                self.assertEqual(shift_right(model.form(x), s), model.form(x >> s))

    def test_long_ints(self):
        source = model.source_of("shifts")
        for _ in range(150):
            x = model.random_int(source, source.choice([10, 64, 66, 130, 400]))
            s = source.randrange(source.choice([5, 70, 450]))
            self.assertEqual(shift_left(model.form(x), s), model.form(x << s))
            self.assertEqual(shift_right(model.form(x), s), model.form(x >> s))

    def test_far_numbers(self):
        source = model.source_of("far shifts")
        for _ in range(100):
            x = model.random_model(source, 40, 4)
            s = source.randrange(400)
            self.assertEqual(shift_left(model.far_form(x), s), model.far_form(x << s))
            self.assertEqual(shift_right(model.far_form(x << s), s), model.far_form(x))
            low = source.getrandbits(s + 1) >> 1
            self.assertEqual(shift_right(model.far_form((x << s) + low), s), model.far_form(x))

    def test_far_amounts(self):
        source = model.source_of("far amounts")
        for _ in range(100):
            cluster, offset = source.randrange(1, 4), source.randrange(500)
            s = model.far_place(cluster, offset)
            x = model.random_int(source, 60)
            far = model.far_form(x << (cluster * model.STEP + offset))
            self.assertEqual(shift_left(x, s), far)
            self.assertEqual(shift_right(far, s), x)
            self.assertEqual(shift_right(x, s), -1 if x < 0 else 0)
            lower = model.far_form(model.random_model(source, 20, cluster))
            self.assertEqual(shift_right(add(far, lower), s), x - (order_of(lower, 0) < 0))

    def test_laws_of_any_numbers_and_amounts(self):
        source = model.source_of("shift laws")
        for _ in range(60):
            x = model.far_form(model.random_model(source, 3, 4))
            s = model.far_place(source.randrange(4), source.randrange(50))
            up, down = shift_left(x, s), shift_right(x, s)
            self.assertTrue(is_form(up) and is_form(down))
            self.assertEqual(shift_right(up, s), x)
            expected = [a * model.rest_of_power(s, m) % m
                        for a, m in zip(model.rests(x), model.MODULI)]
            self.assertEqual(model.rests(up), expected)
            rest = subtract(x, shift_left(down, s))
            self.assertGreaterEqual(order_of(rest, 0), 0)
            self.assertEqual(order_of(rest, shift_left(1, s)), -1)

    def test_negative_amounts(self):
        for s in NEGATIVE:
            for x in [0, 5, FAR, model.tower(7)]:
                self.raises(NegativeShift, {"amount": s}, shift_left, x, s)
                self.raises(NegativeShift, {"amount": s}, shift_right, x, s)
        with self.assertRaises(NegativeShift) as caught:
            shift_left(1, NEGATIVE[-1])
        self.assertIs(caught.exception.amount, NEGATIVE[-1])

    def test_sizes_2000_and_2001(self):
        self.assertEqual(size_of(shift_left(model.spread(1999), 1)), 2000)
        self.too_large(2001, 1, shift_left, model.spread(2000), 1)
        self.assertEqual(size_of(shift_right(model.spread(1999), 1)), 2000)
        self.too_large(2001, 1, shift_right, model.spread(2000), 1)

    def test_just_over_the_limit_by_a_far_amount(self):
        for many in range(200, 400):
            x = model.spread(many, 65, 1)
            shifted = tuple(model.form(turn + 2**64) for turn in x)
            if model.size(shifted) <= 2000:
                self.assertEqual(shift_left(x, FAR), shifted)
            else:
                self.too_large(model.size(shifted), 2, shift_left, x, FAR)

    def test_heights_6_and_7(self):
        self.assertEqual(shift_left(1, model.tower(5)), model.tower(6))
        seven = model.tower(7)
        self.too_large(model.size(seven), 7, shift_left, 1, model.tower(6))
        self.assertEqual(shift_right(seven, model.tower(6)), 1)
        self.assertEqual(shift_right(model.spread(2100), 2000), model.form(
            model.value_of(model.spread(2100)) >> 2000))
        self.assertEqual(shift_left(0, seven), 0)
        self.too_large(model.size(seven), 7, shift_right, seven, 0)


class Divide(Case):
    def test_ints(self):
        for x in EDGES + list(range(-9, 10)):
            for p in [0, 1, 2, 3, 63, 64, 65, 100]:
                self.assertEqual(divide(model.form(x), model.form(2**p)), model.form(x >> p))

    def test_far(self):
        for p in [70, FAR, (0, 64, 65, 70), model.tower(2), successor(model.tower(4))]:
            y = shift_left(1, p)
            for x in [0, 1, -1, y, negate(y), subtract(y, 1), shift_left(5, p), FAR]:
                self.assertEqual(divide(x, y), shift_right(x, p))
        self.assertEqual(divide(model.tower(7), model.tower(7)), 1)
        self.assertEqual(divide(model.tower(7), model.tower(8)), 0)

    def test_no_powers(self):
        far = model.tower(3)
        for y in [0, -1, -2, -4, 3, 5, 6, 7, 2**64 - 1, -2**64, negate(far), (70,),
                  (0, 64, 65), (65, 67), (64, 65, 66), (64, 65, 66, 67), successor(far),
                  subtract(far, 1), (0, 65), (far[0], far), (FAR, (1, 64, 65))]:
            for x in [0, 5, far, model.tower(7)]:
                with self.subTest(x=x, y=y):
                    self.raises(NotPower, {"value": y}, divide, x, y)

    def test_no_forms(self):
        for y in NO_FORMS:
            with self.subTest(y=y):
                self.raises(NotPower, {"value": y}, divide, 5, y)

    def test_limits(self):
        self.assertEqual(size_of(divide(model.spread(1999), 2)), 2000)
        self.too_large(2001, 1, divide, model.spread(2000), 2)
        self.too_large(model.size(model.tower(7)), 7, divide, model.tower(7), 1)


class Multiply(Case):
    def test_ints(self):
        for x in EDGES + list(range(-20, 20)):
            for y in EDGES + list(range(-20, 20)):
                self.assertEqual(multiply(model.form(x), model.form(y)), model.form(x * y))

    def test_long_ints(self):
        source = model.source_of("products")
        for _ in range(200):
            x = model.random_int(source, source.choice([10, 64, 66, 130, 400]))
            y = model.random_int(source, source.choice([10, 64, 66, 130, 400]))
            self.check_terms(model.form(x), model.form(y), model.form(x * y))

    def check_terms(self, x, y, product):
        terms = 1
        for form in (x, y):
            terms *= len(model.int_turns(form) if isinstance(form, int) else form)
        if terms > 600 and not (isinstance(x, int) and isinstance(y, int)):
            self.raises(TooManyTerms, {"terms": terms}, multiply, x, y)
        elif model.size(product) > 2000 or model.height(product) > 6:
            self.too_large(model.size(product), model.height(product), multiply, x, y)
        else:
            self.assertEqual(multiply(x, y), product)

    def test_far_by_plain(self):
        source = model.source_of("far by plain")
        for _ in range(100):
            x = model.random_model(source, 8)
            y = model.random_int(source, 20)
            self.check_terms(model.far_form(x), y, model.far_form(x * y))
            self.check_terms(y, model.far_form(x), model.far_form(x * y))

    def test_laws(self):
        source = model.source_of("product laws")
        for _ in range(60):
            x, y, z = [model.far_form(model.random_model(source, 2, 4)) for _ in range(3)]
            product = multiply(x, y)
            self.assertTrue(is_form(product))
            self.assertEqual(product, multiply(y, x))
            expected = [a * b % m for a, b, m in
                        zip(model.rests(x), model.rests(y), model.MODULI)]
            self.assertEqual(model.rests(product), expected)
            if len(turns_of(x)) * len(turns_of(add(y, z))) <= 600:
                self.assertEqual(multiply(x, add(y, z)), add(product, multiply(x, z)))
            self.assertEqual(multiply(negate(x), y), negate(product))

    def test_zero_and_one(self):
        for x in [0, 5, FAR, model.spread(1999), model.tower(6)]:
            self.assertEqual(multiply(x, 0), 0)
            self.assertEqual(multiply(0, x), 0)
        self.assertEqual(multiply(model.tower(6), 1), model.tower(6))
        self.assertEqual(multiply(-1, model.tower(6)), negate(model.tower(6)))

    def test_600_and_601_pairs(self):
        minus_power = (70,)
        x = model.spread(600)
        self.assertEqual(multiply(x, minus_power), negate(shift_left(x, 70)))
        self.assertEqual(multiply(minus_power, x), negate(shift_left(x, 70)))
        x = model.spread(601)
        self.raises(TooManyTerms, {"terms": 601}, multiply, x, minus_power)
        self.raises(TooManyTerms, {"terms": 601}, multiply, minus_power, x)
        self.raises(TooManyTerms, {"terms": 1202}, multiply, 1, x)
        self.raises(TooManyTerms, {"terms": 602}, multiply, 1, model.spread(301))
        self.raises(TooManyTerms, {"terms": 601}, multiply, x, -1)
        x, y = model.spread(20), model.spread(30, 65, 3)
        product = model.form(model.value_of(x) * model.value_of(y))
        self.assertEqual(multiply(x, y), product)
        self.raises(TooManyTerms, {"terms": 620}, multiply, x, model.spread(31))

    def test_plain_numbers_may_have_more_pairs(self):
        x = model.value_of(tuple(range(64)))
        self.assertEqual(len(model.int_turns(x)), 64)
        self.assertEqual(multiply(x, x), model.form(x * x))
        # One of them plain is not enough.
        self.raises(TooManyTerms, {"terms": 64 * 10}, multiply, x, model.spread(10))
        self.raises(TooManyTerms, {"terms": 64 * 10}, multiply, model.spread(10), x)
        y = model.spread(9)
        self.assertEqual(multiply(x, y), model.form(x * model.value_of(y)))

    def test_too_many_terms_goes_ahead_of_too_large(self):
        self.raises(TooManyTerms, {"terms": 601}, multiply, model.spread(601), (model.tower(6),))
        self.raises(TooManyTerms, {"terms": 2100}, multiply, model.spread(2100), (70,))
        self.too_large(model.size(model.tower(7)), 7, multiply, model.tower(7), 1)

    def test_sizes_around_the_limit(self):
        # (2**p) * (2**p) is 2**(2 * p): only its size is judged.
        for many in [1, 10, 330, 331, 332, 333, 334, 335, 499, 500]:
            p = model.spread(many * 2, 70)
            x = (p, successor(p))
            doubled = tuple(turn + 1 for turn in p)
            product = (doubled, (0, 1) + doubled)
            if model.size(product) <= 2000:
                self.assertEqual(multiply(x, x), product)
            else:
                self.too_large(model.size(product), 2, multiply, x, x)

    def test_numbers_stay(self):
        x, y = (3, FAR, (0, 1, 64, 65)), (5, 70)
        multiply(x, y)
        shift_left(x, y[1])
        self.assertEqual((x, y), ((3, FAR, (0, 1, 64, 65)), (5, 70)))


class Power(Case):
    def test_examples(self):
        self.assertEqual(power(FAR, 3), (192, 193))
        self.assertEqual(power(2, FAR), (FAR, (0, 1, 64, 65)))

    def test_ints(self):
        for x in [0, 1, -1, 2, -2, 3, 4, -8]:
            for n in list(range(20)) + [63, 64]:
                self.assertEqual(power(x, n), model.form(x**n))

    def test_far(self):
        for n in range(65):
            self.assertEqual(power(FAR, n), model.form(2**(64 * n)))
            self.assertEqual(power(-2**64, n), model.form((-2**64)**n))
        x = (3, FAR)
        self.assertEqual(power(x, 2), multiply(x, x))
        self.assertEqual(power(x, 3), multiply(multiply(x, x), x))
        self.assertEqual(model.rests(power(x, 3)), [a**3 % m for a, m in
                                                    zip(model.rests(x), model.MODULI)])

    def test_power_0_is_1(self):
        for x in [0, 1, -5, FAR, model.spread(1999), model.tower(8)]:
            self.assertEqual(power(x, 0), 1)

    def test_powers_of_2(self):
        for n in [0, 1, 2, 63, 64, 65, 66, 2**64 - 1, FAR, model.tower(5), model.spread(900)]:
            self.assertEqual(power(2, n), shift_left(1, n))
        seven = model.tower(7)
        self.too_large(model.size(seven), 7, power, 2, model.tower(6))
        self.too_large(model.size(model.tower(9)), 9, power, 2, model.tower(8))

    def test_64_and_65(self):
        self.assertEqual(power(3, 64), model.form(3**64))
        for x in [0, 1, -1, 3, -2, FAR]:
            self.raises(InvalidPower, {"exponent": 65}, power, x, 65)
        self.assertEqual(power(2, 65), (65, 66))

    def test_other_exponents(self):
        for x in [0, 1, 2, 3, -2, FAR, model.spread(2100)]:
            for n in NEGATIVE + NO_FORMS:
                with self.subTest(x=x, n=n):
                    self.raises(InvalidPower, {"exponent": n}, power, x, n)
        for x in [0, 1, 3, -2, FAR]:
            for n in [65, 66, 2**64 - 1, FAR, model.tower(7)]:
                self.raises(InvalidPower, {"exponent": n}, power, x, n)

    def test_invalid_power_goes_ahead_of_all_else(self):
        self.raises(InvalidPower, {"exponent": 65}, power, model.spread(700), 65)
        self.raises(InvalidPower, {"exponent": -1}, power, model.tower(8), -1)

    def test_errors_of_the_products(self):
        self.raises(TooManyTerms, {"terms": 602}, power, model.spread(301), 1)
        self.assertEqual(power(model.spread(300), 1), model.spread(300))
        self.raises(TooManyTerms, {"terms": 625}, power, model.spread(25), 2)
        self.assertEqual(power(model.spread(24), 2), multiply(model.spread(24), model.spread(24)))
        self.too_large(model.size(model.tower(7)), 7, power, model.tower(7), 1)
        self.too_large(model.size(model.tower(7)), 7, power, model.tower(7), 64)

    def test_an_earlier_product_fails_first(self):
        x = (0, FAR, (0, 1, 64, 65))
        product, n = x, 1
        while True:
            terms = len(product) * len(x)
            if terms > 600:
                break
            product, n = multiply(product, x), n + 1
            self.assertEqual(power(x, n), product)
        for later in [n + 1, n + 2, 64]:
            self.raises(TooManyTerms, {"terms": terms}, power, x, later)

    def test_too_large_on_the_way_is_raised(self):
        # x is -2**p. The square 2**(2 * p) has two turns, the cube only one.
        p = model.spread(998, 70)
        x = (p,)
        cube = (model.form(3 * model.value_of(p)),)
        self.assertLessEqual(model.size(cube), 2000)
        for n in [2, 3, 4, 64]:
            self.too_large(2001, 2, power, x, n)


if __name__ == "__main__":
    unittest.main()
