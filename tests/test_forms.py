"""[3], [4], [10], [11]: forms, their sizes, turns, order and bits."""

import functools
import unittest

from farbits.errors import InvalidTurns, NoPlace, TooLarge
from farbits.forms import bit_of, form_of, height_of, is_form, order_of, size_of
from farbits.forms import turns_of
from tests import model

EDGES = [0, 1, -1, 2, -2, 3, 5, 6, -8, 2**63, 2**64 - 1, 2**64, 2**64 + 1,
         -2**64 + 1, -2**64, -2**64 - 1, 2**65, -2**65, 2**70 + 5, -2**200 + 2**70]


class IsForm(unittest.TestCase):
    def test_examples(self):
        self.assertIs(is_form((64, 65)), True)
        for value in [(0, 64), (), (65, 65), 2**64]:
            with self.subTest(value=value):
                self.assertIs(is_form(value), False)

    def test_plain_ints_only(self):
        for value in [0, -1, 2**64 - 1, -2**64]:
            self.assertIs(is_form(value), True)
        for value in [2**64, -2**64 - 1, 2**4000, -2**4000]:
            self.assertIs(is_form(value), False)

    def test_forms(self):
        for value in EDGES:
            self.assertIs(is_form(model.form(value)), True)
        source = model.source_of("is_form")
        for _ in range(40):
            x = model.far_form(model.random_model(source, 66, 4))
            self.assertIs(is_form(x), model.size(x) <= 2000)

    def test_other_values(self):
        for value in [None, True, False, "5", "", [64, 65], [], {}, {64: 65}, object(),
                      b"a", 1.0, (64, 65.0), ("64", 65), (None, 65)]:
            with self.subTest(value=value):
                self.assertIs(is_form(value), False)

    def test_bools_and_lists_within_tuples(self):
        for value in [(False, 65), (True, 65), ([1, 2], 65), ([64, 65],), ((True, 65),),
                      (0, (64, [65])), (0, 1, (1, False, 70))]:
            with self.subTest(value=value):
                self.assertIs(is_form(value), False)

    def test_entries_are_ascending_places(self):
        for value in [(65,), (0, 65), (64, 65), (3, (65, 66)), ((65, 66), (65, 67))]:
            self.assertIs(is_form(value), True)
        for value in [(-1, 65), (65, 64), (65, 0), (70, 70), ((65, 66), 65),
                      ((65, 67), (65, 66)), ((65, 66), (65, 66)), ((65,), (65, 66)),
                      ((65,),), (2**64,), (65, 2**64), (0, (0, 64)), ((1, 2, 3),)]:
            with self.subTest(value=value):
                self.assertIs(is_form(value), False)

    def test_an_entry_is_greater_than_64(self):
        self.assertIs(is_form((64,)), False)
        self.assertIs(is_form((0, 1, 63, 64)), False)
        self.assertIs(is_form((0, 1, 63, 65)), True)

    def test_size(self):
        self.assertIs(is_form(model.spread(1999)), True)
        self.assertIs(is_form(model.spread(2000)), False)
        inner = model.spread(998)
        outer = model.plus_one_of_power(*inner[:2]) + inner[2:]
        self.assertEqual(model.size((inner, outer)), 2001)
        self.assertIs(is_form((inner, outer)), False)
        self.assertIs(is_form((inner, outer[:-2])), False)
        self.assertIs(is_form((outer[:-2], inner)), True)

    def test_height(self):
        self.assertEqual(model.height(model.tower(6)), 6)
        for levels in range(1, 7):
            self.assertIs(is_form(model.tower(levels)), True)
        self.assertIs(is_form(model.tower(7)), False)
        self.assertIs(is_form((model.tower(6),)), False)

    def test_deep_values_end_soon(self):
        value = 65
        for _ in range(29):
            value = (value,)
        self.assertIs(is_form(value), False)
        low, high = 64, 65
        for _ in range(29):
            low, high = (low, high), (0, 1, low, high)
        self.assertIs(is_form((low, high)), False)


class Size(unittest.TestCase):
    def test_examples(self):
        self.assertEqual(size_of(((64, 65), (0, 1, 64, 65))), 9)
        self.assertEqual(height_of(((64, 65), (0, 1, 64, 65))), 2)

    def test_plain(self):
        for value in [0, 1, -1, 2**64 - 1, -2**64]:
            self.assertEqual(size_of(value), 1)
            self.assertEqual(height_of(value), 0)

    def test_edges_of_plain(self):
        self.assertEqual(size_of(model.form(2**64)), 3)
        self.assertEqual(size_of(model.form(-2**64 - 1)), 4)
        self.assertEqual(height_of(model.form(2**64)), 1)

    def test_far(self):
        source = model.source_of("size")
        for _ in range(40):
            x = model.far_form(model.random_model(source))
            self.assertEqual(size_of(x), model.size(x))
            self.assertEqual(height_of(x), model.height(x))
        for x in [(3, (65, 66)), (3, (65, 66), (65, 72)), ((64, 65), model.tower(4))]:
            self.assertEqual(height_of(x), model.height(x))

    def test_too_large_forms_have_a_size(self):
        self.assertEqual(size_of(model.spread(5000)), 5001)
        self.assertEqual(height_of(model.tower(9)), 9)
        self.assertEqual(size_of(model.tower(9)), model.size(model.tower(9)))


class Turns(unittest.TestCase):
    def test_examples(self):
        self.assertEqual(turns_of(5), (0, 1, 2, 3))
        self.assertEqual(form_of([1, 3]), 6)
        with self.assertRaises(InvalidTurns) as caught:
            form_of([3, 3])
        self.assertEqual(caught.exception.index, 1)
        for value, turns in [(0, ()), (1, (0, 1)), (6, (1, 3)), (-1, (0,)), (-8, (3,)),
                             ((64, 65), (64, 65))]:
            self.assertEqual(turns_of(value), turns)
            self.assertEqual(form_of(list(turns)), value)

    def test_small_ints(self):
        for value in list(range(-300, 300)) + EDGES:
            turns = tuple(model.int_turns(value))
            self.assertEqual(turns_of(model.form(value)), turns)
            self.assertEqual(form_of(list(turns)), model.form(value))
            self.assertEqual(form_of(turns), model.form(value))

    def test_far_turns(self):
        x = (3, (64, 65), (0, 1, 64, 65), model.tower(3))
        self.assertEqual(turns_of(x), x)
        self.assertEqual(form_of(list(x)), x)
        self.assertIsInstance(turns_of(x), tuple)
        self.assertIsInstance(turns_of(7), tuple)

    def test_edge_of_plain(self):
        self.assertEqual(form_of([64]), -2**64)
        self.assertEqual(form_of([65]), (65,))
        self.assertEqual(form_of([0, 64]), 2**64 - 1)
        self.assertEqual(form_of([0, 65]), (0, 65))
        self.assertEqual(form_of([]), 0)

    def test_invalid_turns(self):
        far = (64, 65)
        for turns, index in [([-1], 0), ([(65,)], 0), ([0, -1], 1), ([5, 3], 1),
                             ([1, 2, 3, 3, -7], 3), ([1, far, far], 2), ([far, 5], 1),
                             ([model.tower(3), model.tower(2)], 1), ([0, (0, 64, 65)], 1),
                             ([1, 5, 4, 2], 2)]:
            with self.subTest(turns=turns):
                with self.assertRaises(InvalidTurns) as caught:
                    form_of(turns)
                self.assertEqual(caught.exception.index, index)

    def test_too_large(self):
        self.assertEqual(size_of(form_of(list(range(70, 2069)))), 2000)
        with self.assertRaises(TooLarge) as caught:
            form_of(list(range(70, 2070)))
        self.assertEqual((caught.exception.parts, caught.exception.levels), (2001, 1))
        self.assertEqual(height_of(form_of([model.tower(5)])), 6)
        with self.assertRaises(TooLarge) as caught:
            form_of([3, model.tower(6)])
        self.assertEqual((caught.exception.parts, caught.exception.levels), (191, 7))

    def test_invalid_turns_go_ahead_of_too_large(self):
        with self.assertRaises(InvalidTurns) as caught:
            form_of(list(range(70, 2170)) + [2169])
        self.assertEqual(caught.exception.index, 2100)
        with self.assertRaises(InvalidTurns) as caught:
            form_of([model.tower(7), 3])
        self.assertEqual(caught.exception.index, 1)

    def test_turns_of_a_form_that_is_too_large(self):
        self.assertEqual(turns_of(model.tower(7)), model.tower(7))
        with self.assertRaises(TooLarge) as caught:
            turns_of((0, model.spread(2000), model.tower(8)))
        self.assertEqual((caught.exception.parts, caught.exception.levels), (2001, 1))

    def test_the_list_stays(self):
        turns = [1, (64, 65), (64, 66)]
        form_of(turns)
        self.assertEqual(turns, [1, (64, 65), (64, 66)])


class Order(unittest.TestCase):
    def test_ints(self):
        for x in EDGES + list(range(-9, 9)):
            for y in EDGES + list(range(-9, 9)):
                self.assertEqual(order_of(model.form(x), model.form(y)), (x > y) - (x < y))

    def test_far(self):
        source = model.source_of("order")
        for _ in range(150):
            x = model.random_model(source)
            y = model.random_model(source, 5)
            if source.random() < 0.5:
                y += x
            far_x, far_y = model.far_form(x), model.far_form(y)
            self.assertEqual(order_of(far_x, far_y), (x > y) - (x < y))
            self.assertEqual(order_of(far_y, far_x), (y > x) - (y < x))
            self.assertEqual(order_of(far_x, model.far_form(x)), 0)

    def test_long_common_tails(self):
        tail = model.spread(500, 100)
        for many in [7, 8, 9, 15, 16, 17, 24, 100, 499, 500]:
            x = (3, 7) + tail[-many:]
            y = (3, 9) + tail[-many:]
            z = (5, 6, 7, 9) + tail[-many:]
            forms = [x, y, z, tail[-many:], (1, 2) + tail[-many:]]
            forms = sorted(forms, key=functools.cmp_to_key(order_of))
            ints = sorted(model.value_of(form) for form in forms)
            self.assertEqual([model.value_of(form) for form in forms], ints)

    def test_one_has_all_turns_of_the_other(self):
        tail = (64, 65, (64, 65), model.tower(2))
        self.assertEqual(order_of(tail, (1, 2) + tail), -1)
        self.assertEqual(order_of((1, 2) + tail, tail), 1)
        self.assertEqual(order_of(tail[1:], (1, 2) + tail[1:]), -1)

    def test_towers_ascend(self):
        values = [model.tower(levels) for levels in range(1, 7)]
        for low, high in zip(values, values[1:]):
            self.assertEqual(order_of(low, high), -1)
            self.assertEqual(order_of(high, low), 1)
            self.assertEqual(order_of((low,), (high,)), 1)
            self.assertEqual(order_of((high,), low), -1)


class Bits(unittest.TestCase):
    def test_ints(self):
        for value in EDGES:
            for place in list(range(70)) + [199, 200, 201, 5000, 2**64 - 1]:
                expected = model.bit(value, place) if place < 6000 else int(value < 0)
                self.assertEqual(bit_of(model.form(value), place), expected)

    def test_far(self):
        source = model.source_of("bits")
        for _ in range(100):
            x = model.random_model(source)
            form = model.far_form(x)
            places = model.int_turns(x)[-10:]
            places += [source.randrange(model.CLUSTERS * model.STEP) for _ in range(20)]
            for place in places:
                far = model.far_place(place // model.STEP, place % model.STEP)
                self.assertEqual(bit_of(form, far), model.bit(x, place))

    def test_bits_are_ints(self):
        self.assertIsInstance(bit_of(1, 0), int)
        self.assertNotIsInstance(bit_of(1, 0), bool)
        self.assertNotIsInstance(bit_of((64, 65), (64, 65)), bool)
        self.assertEqual(bit_of(-1, model.tower(6)), 1)
        self.assertEqual(bit_of(5, model.tower(6)), 0)

    def test_negative_places(self):
        for place in [-1, -2**64, (65,), (0, 64, 65), (model.tower(6),)]:
            with self.assertRaises(NoPlace) as caught:
                bit_of((64, 65), place)
            self.assertIs(caught.exception.place, place)

    def test_too_large_forms_have_bits(self):
        self.assertEqual(bit_of(model.spread(5000), 65), 1)
        self.assertEqual(bit_of(model.tower(8), model.tower(7)), 1)


if __name__ == "__main__":
    unittest.main()
