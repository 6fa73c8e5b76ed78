"""[12], [4]: sums and bit operators of forms."""

import unittest

from farbits.errors import TooLarge
from farbits.forms import add, bit_and, bit_not, bit_or, bit_xor, is_form, negate
from farbits.forms import order_of, size_of, subtract, successor
from tests import model

TWO = [
    (add, lambda x, y: x + y),
    (subtract, lambda x, y: x - y),
    (bit_and, lambda x, y: x & y),
    (bit_or, lambda x, y: x | y),
    (bit_xor, lambda x, y: x ^ y),
]
ONE = [
    (successor, lambda x: x + 1),
    (negate, lambda x: -x),
    (bit_not, lambda x: ~x),
]
EDGES = [0, 1, -1, 2, 5, -6, 2**63, 2**64 - 1, 2**64 - 2, 2**64, 2**64 + 1,
         -2**64 + 1, -2**64, -2**64 - 1, -2**64 - 2, 2**65 - 1, -2**65, 2**66 + 5]


class Examples(unittest.TestCase):
    def test_examples(self):
        self.assertEqual(add(2**64 - 1, 1), (64, 65))
        self.assertEqual(bit_xor((64, 65), (0, 1, 64, 65)), 1)
        far = ((64, 65), (0, 1, 64, 65))
        self.assertEqual(add(far, far), ((0, 1, 64, 65), (1, 2, 64, 65)))
        self.assertEqual(negate((64, 65)), -2**64)
        self.assertEqual(subtract(-2**64, 1), (0, 64, 65))


class Ints(unittest.TestCase):
    def test_small(self):
        for x in range(-20, 20):
            for y in range(-20, 20):
                for function, expected in TWO:
                    self.assertEqual(function(x, y), expected(x, y))

    def test_edges_of_plain(self):
        for x in EDGES:
            for function, expected in ONE:
                self.assertEqual(function(model.form(x)), model.form(expected(x)))
            for y in EDGES:
                for function, expected in TWO:
                    with self.subTest(function=function.__name__, x=x, y=y):
                        result = function(model.form(x), model.form(y))
                        self.assertEqual(result, model.form(expected(x, y)))

    def test_long_ints(self):
        source = model.source_of("long ints")
        for _ in range(300):
            x = model.random_int(source, source.choice([10, 64, 66, 130, 1900]))
            y = model.random_int(source, source.choice([10, 64, 66, 130, 1900]))
            for function, expected in ONE:
                self.assertEqual(function(model.form(x)), model.form(expected(x)))
            for function, expected in TWO:
                result = function(model.form(x), model.form(y))
                self.assertEqual(result, model.form(expected(x, y)))


class Far(unittest.TestCase):
    def agrees(self, function, expected, *models):
        """Whether a function does with far numbers what Python does with models."""
        result = model.far_form(expected(*models))
        forms = [model.far_form(x) for x in models]
        kept = [model.far_form(x) for x in models]
        if model.size(result) > 2000 or model.height(result) > 6:
            with self.assertRaises(TooLarge) as caught:
                function(*forms)
            self.assertEqual(caught.exception.parts, model.size(result))
            self.assertEqual(caught.exception.levels, model.height(result))
        else:
            self.assertEqual(function(*forms), result)
        self.assertEqual(forms, kept)

    def test_models(self):
        source = model.source_of("far sums")
        for round_number in range(100):
            bits = source.choice([5, 20, 60])
            x = model.random_model(source, bits)
            y = model.random_model(source, bits)
            if round_number % 5 == 0:
                y = source.choice([x, -x, ~x, x + 1, -x + 1])
            for function, expected in ONE:
                self.agrees(function, expected, x)
            for function, expected in TWO:
                self.agrees(function, expected, x, y)

    def test_carries_over_far_runs(self):
        far = model.tower(3)
        run = subtract(far, 1)
        self.assertEqual(run, (0, model.tower(2)))
        self.assertEqual(successor(run), far)
        self.assertEqual(add(run, run), (1, (0, 1) + model.tower(2)))
        self.assertEqual(subtract(0, far), (model.tower(2),))
        self.assertEqual(negate((model.tower(2),)), far)
        self.assertEqual(subtract(far, far), 0)
        self.assertEqual(add(far, (model.tower(2),)), 0)
        self.assertEqual(bit_and(-1, far), far)
        self.assertEqual(bit_or(run, far), (0, (0, 1) + model.tower(2)))
        self.assertEqual(bit_not(run), (model.tower(2),))

    def test_laws_of_sums_of_any_places(self):
        source = model.source_of("laws")
        for _ in range(60):
            x = model.far_form(model.random_model(source, 20, 5))
            y = model.far_form(model.random_model(source, 20, 5))
            total = add(x, y)
            self.assertTrue(is_form(total))
            self.assertEqual(total, add(y, x))
            self.assertEqual(subtract(total, y), x)
            self.assertEqual(negate(subtract(x, y)), subtract(y, x))
            self.assertEqual(order_of(x, y), order_of(subtract(x, y), 0))
            expected = [(a + b) % m for a, b, m in
                        zip(model.rests(x), model.rests(y), model.MODULI)]
            self.assertEqual(model.rests(total), expected)
            both, none = bit_and(x, y), bit_xor(x, y)
            self.assertEqual(add(add(both, both), none), total)
            self.assertEqual(add(both, none), bit_or(x, y))

    def test_neighbours_of_far_places(self):
        # The places themselves carry: p + 1 of a place p with a long run of ones.
        place = (0, model.tower(2))
        x = (place, successor(place))
        self.assertEqual(add(x, x), (model.tower(3), successor(model.tower(3))))
        self.assertEqual(successor(successor(place)), successor(model.tower(3)))
        self.assertEqual(add(x, (successor(place),)), (place,))


class Limits(unittest.TestCase):
    def too_large(self, parts, levels, function, *arguments):
        with self.assertRaises(TooLarge) as caught:
            function(*arguments)
        self.assertEqual((caught.exception.parts, caught.exception.levels), (parts, levels))

    def test_sizes_2000_and_2001(self):
        fits, over = model.spread(1999), model.spread(2000)
        self.assertEqual((model.size(fits), model.size(over)), (2000, 2001))
        self.assertEqual(size_of(successor(model.spread(1997))), 2000)
        self.too_large(2001, 1, successor, model.spread(1998))
        self.assertEqual(add(fits, 0), fits)
        self.too_large(2001, 1, add, over, 0)
        self.assertEqual(size_of(bit_not(model.spread(1998))), 2000)
        self.too_large(2001, 1, bit_not, fits)
        self.assertEqual(size_of(negate(model.spread(1998))), 2000)
        self.too_large(2001, 1, negate, fits)
        self.assertEqual(size_of(bit_xor(model.spread(1000), model.spread(999, 66))), 2000)
        self.too_large(2001, 1, bit_xor, model.spread(1000), model.spread(1000, 66))
        self.assertEqual(size_of(bit_or(model.spread(1996), 6)), 1999)
        self.too_large(2001, 1, bit_or, model.spread(1998), 6)
        self.too_large(2001, 1, subtract, over, 0)
        self.assertEqual(size_of(bit_and(fits, -1)), 2000)
        self.too_large(2001, 1, bit_and, over, -1)

    def test_heights_6_and_7(self):
        six, seven = model.tower(6), model.tower(7)
        self.assertEqual((model.height(six), model.height(seven)), (6, 7))
        self.assertEqual(bit_or(six, 0), six)
        self.too_large(model.size(seven), 7, bit_or, seven, 0)
        self.assertEqual(negate(negate(six)), six)
        self.too_large(model.size(seven) + 2, 7, successor, seven)

    def test_carries_that_grow_over_the_limit(self):
        # A place with ones at all places to 64: the next one is no plain number.
        x = (2**64 - 1,)
        self.assertEqual(add(x, x), ((64, 65),))
        place = (0, model.tower(5))
        self.assertEqual(model.height((place,)), 7)
        self.too_large(model.size((model.tower(6),)), 7, add, (place,), (place,))

    def test_what_is_only_passed_is_not_judged(self):
        over = model.spread(2000, 64)
        self.assertEqual(bit_and(over, 1), 0)
        self.assertEqual(subtract(over, over), 0)
        self.assertEqual(bit_xor(model.tower(8), (0, 1) + model.tower(8)), 1)
        self.assertEqual(add(model.tower(8), (model.tower(7),)), 0)


if __name__ == "__main__":
    unittest.main()
