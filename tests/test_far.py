"""[20], [21]: what a Far is made of, and what is asked of one."""

import unittest

from farbits.errors import BadText, InvalidPower, InvalidRange, InvalidTurns
from farbits.errors import NegativeShift, NoPlace, NotANumber, NotPower, TooFar
from farbits.errors import TooLarge, TooManyTerms, UnknownName
from farbits.far import Far
from farbits.forms import subtract
from farbits.texts import write_form
from tests import model

NO_NUMBERS = [None, True, False, "5", "", b"5", {}, {5: 6}, 1.0, object(), {1, 2}, range(3), int]
EDGES = [0, 1, -1, 2, 5, 6, -8, 2**63, 2**64 - 1, 2**64, 2**64 + 1, -2**64, -2**64 - 1, 2**70 - 5]
# An int that is too large: every other one of its bits is a one.
WIDE = int("10" * 1100, 2)


class Case(unittest.TestCase):
    def raises(self, error, fields, function, *arguments, **named):
        with self.assertRaises(error) as caught:
            function(*arguments, **named)
        self.assertIs(type(caught.exception), error)
        self.assertEqual(vars(caught.exception), fields)
        for field, value in fields.items():
            self.assertIs(type(getattr(caught.exception, field)), type(value))

    def too_large(self, form, function, *arguments):
        fields = {"parts": model.size(form), "levels": model.height(form)}
        self.raises(TooLarge, fields, function, *arguments)


class Making(Case):
    def test_examples(self):
        self.assertTrue(Far([1, 3]) == 6)
        self.raises(NotANumber, {"value": True}, Far, [5, True])
        self.raises(InvalidTurns, {"index": 1}, Far, [[3, 2], 1])
        self.raises(InvalidTurns, {"index": 1}, Far, [[1, 3], 2])
        self.assertTrue(Far([]) == 0)
        self.assertTrue(Far() == 0)

    def test_ints(self):
        for x in EDGES + list(range(-40, 40)):
            self.assertEqual(Far(x).form, model.form(x))
            self.assertEqual(Far(value=x).form, model.form(x))
            self.assertEqual(Far(Far(x)).form, model.form(x))

    def test_long_ints(self):
        source = model.source_of("long ints of Far")
        for _ in range(100):
            x = model.random_int(source, 1900)
            self.assertEqual(Far(x).form, model.form(x))
        x = 2**3999
        self.assertEqual(Far(x).form, (3999, 4000))
        self.too_large(model.form(WIDE), Far, WIDE)
        self.too_large(model.form(-WIDE), Far, -WIDE)

    def test_turns(self):
        for x in EDGES + list(range(-40, 40)):
            turns = model.int_turns(x)
            for given in [turns, tuple(turns), [Far(turn) for turn in turns],
                          [model.int_turns(turn) for turn in turns],
                          [tuple([model.int_turns(place) for place in model.int_turns(turn)])
                           for turn in turns]]:
                self.assertEqual(Far(given).form, model.form(x))

    def test_forms(self):
        source = model.source_of("forms of Far")
        for k in range(60):
            form = model.far_form(model.random_model(source, 1 + k, 5))
            if model.size(form) <= 2000:
                self.assertEqual(Far(form).form, form)
                self.assertEqual(Far(as_lists(form)).form, form)
                if isinstance(form, tuple):
                    self.assertEqual(Far([Far(turn) for turn in form]).form, form)

    def test_turns_of_mixed_kinds(self):
        x = Far([0, Far(7), [1, 2, Far(3), 4], 2**70, ([64, 65], Far(2**64 + 1))])
        self.assertEqual(x.form, (0, 7, 10, (70, 71), model.tower(2)))

    def test_other_values(self):
        for value in NO_NUMBERS:
            with self.subTest(value=value):
                self.raises(NotANumber, {"value": value}, Far, value)
                for holder in [[value], (value,), [1, value], [0, 1, [2, value]], ((3, value), 1)]:
                    self.raises(NotANumber, {"value": value}, Far, holder)

    def test_invalid_turns(self):
        far = Far.power(2**64)
        for turns, index in [([-1], 0), ([Far(-1)], 0), ([0, -1], 1), ([3, 3], 1), ([3, Far(3)], 1),
                             ([Far(3), 2], 1), ([1, 2, 3, 3, -7], 3), ([far, 2**64], 1), ([far, far], 1),
                             ([far, (64, 65), 5], 1), ([2**65, (64, 65)], 1), ([[0]], 0), ([0, [64]], 1),
                             ([[], 0], 1), ([0, []], 1), ([[], []], 1), (((0, 1), [0, 1]), 1),
                             ([1, [2, 3, 3], -1], 2), ([5, [4, [7, 6]]], 1), ([0, 5, [1, 3, 2], "x"], 2),
                             ([0, 5, [4], "x"], 2)]:
            with self.subTest(turns=turns):
                self.raises(InvalidTurns, {"index": index}, Far, turns)
                self.raises(InvalidTurns, {"index": index}, Far, tuple(turns))

    def test_entries_are_taken_in_order(self):
        self.raises(InvalidTurns, {"index": 1}, Far, [3, 2, None])
        self.raises(NotANumber, {"value": None}, Far, [3, None, 2])
        self.raises(NotANumber, {"value": "x"}, Far, [3, [4, 5, "x"], 2])
        self.raises(InvalidTurns, {"index": 2}, Far, [0, 1, [5, 6, 4], True])
        self.raises(InvalidTurns, {"index": 1}, Far, [5, [0, 1], "x"])

    def test_an_entry_s_own_errors_go_first(self):
        # The entry is too large, and also out of order.
        self.too_large(model.form(WIDE), Far, [2**4200, WIDE])
        self.too_large(model.form(-WIDE), Far, [-WIDE])
        self.too_large(model.spread(2001), Far, [(70, 71), list(model.spread(2001)), None])
        self.raises(InvalidTurns, {"index": 1}, Far, [5, 4, list(model.spread(2001))])
        self.raises(InvalidTurns, {"index": 2001}, Far, list(model.spread(2001)) + [70])

    def test_limits(self):
        self.assertEqual(Far(list(range(70, 2069))).size, 2000)
        self.too_large(tuple(range(70, 2070)), Far, list(range(70, 2070)))
        self.assertEqual(Far(model.tower(6)).height, 6)
        self.too_large(model.tower(7), Far, model.tower(7))
        self.too_large((0, model.tower(6)), Far, [0, Far(model.tower(6))])
        # The first entry whose height is 7 is the one that is told.
        self.too_large(model.tower(7), Far, model.tower(9))

    def test_nested_30_deep(self):
        value = [0, 1]
        for _ in range(29):
            value = [0, value]
        self.assertTrue(Far(value) == 1)
        value = (0, 1)
        for _ in range(29):
            value = ([], value)
        self.assertTrue(Far(value) == 1)
        value = True
        for _ in range(30):
            value = (0, value)
        self.raises(NotANumber, {"value": True}, Far, value)

    def test_what_is_passed_stays(self):
        turns = [1, [64, 65], [0, 1, 64, 65]]
        x = Far(turns)
        self.assertEqual(turns, [1, [64, 65], [0, 1, 64, 65]])
        turns.append(5)
        turns[1].append(70)
        self.assertEqual(x.form, (1, (64, 65), (0, 1, 64, 65)))


def as_lists(form):
    return [as_lists(turn) for turn in form] if isinstance(form, tuple) else form


class PowerAndRun(Case):
    def test_power(self):
        for p in [0, 1, 5, 63, 64, 65, 100, 3000]:
            self.assertEqual(Far.power(p).form, model.form(2**p))
            self.assertEqual(Far.power(Far(p)).form, model.form(2**p))
        for levels in range(1, 6):
            self.assertEqual(Far.power(Far(model.tower(levels))).form, model.tower(levels + 1))
        self.assertEqual(Far.power(p=3).form, 8)
        self.assertEqual(Far(0).power(3).form, 8)

    def test_errors_of_power(self):
        for value in NO_NUMBERS + [[], [1], (64, 65)]:
            self.raises(NotANumber, {"value": value}, Far.power, value)
        for place in [-1, -2**64 - 1, Far(-1), -Far.power(2**70)]:
            self.raises(NoPlace, {"place": place}, Far.power, place)
        self.too_large(model.tower(7), Far.power, Far(model.tower(6)))
        self.assertEqual(Far.power(model.value_of(model.spread(996, 70))).size, 1997)
        p = model.spread(998, 70)
        self.too_large((p, (0, 1) + p), Far.power, Far(p))

    def test_run(self):
        for start, stop in [(0, 0), (0, 1), (3, 3), (3, 9), (0, 64), (0, 65), (64, 65), (60, 70), (5, 3000)]:
            self.assertEqual(Far.run(start, stop).form, model.form(2**stop - 2**start))
            self.assertEqual(Far.run(Far(start), Far(stop)).form, model.form(2**stop - 2**start))
        far = Far.power(2**70)
        self.assertEqual(Far.run(5, far).form, (5, far.form))
        self.assertEqual(Far.run(far, far).form, 0)
        self.assertEqual(Far.run(stop=far + 1, start=far).form, Far.power(far).form)

    def test_errors_of_run(self):
        far = Far.power(2**70)
        for value in NO_NUMBERS + [[], (64, 65)]:
            self.raises(NotANumber, {"value": value}, Far.run, value, None)
            self.raises(NotANumber, {"value": value}, Far.run, 5, value)
            self.raises(NotANumber, {"value": value}, Far.run, -5, value)
        for start, stop in [(-1, 5), (5, 4), (-3, -1), (far, 5), (Far(5), Far(4)), (-far, far), (far, far - 1), (5, -1)]:
            self.raises(InvalidRange, {"start": start, "stop": stop}, Far.run, start, stop)
        high = Far(model.tower(6))
        self.too_large((0, high.form), Far.run, 0, high)
        self.assertEqual(Far.run(high, high), 0)
        self.assertEqual(Far.run(WIDE, WIDE), 0)


class Read(Case):
    def test_read(self):
        self.assertIsInstance(Far.read("5"), Far)
        self.assertEqual(Far.read("2**2**70 - 5").form, subtract((((70, 71)), (0, 1, 70, 71)), 5))
        self.assertEqual(Far.read("x * y + z", {"x": 3, "y": Far(4), "z": -2}).form, 10)
        self.assertEqual(Far.read(values={"x": Far.power(70)}, text="x").form, (70, 71))
        self.assertEqual(Far.read("5", None).form, 5)
        self.assertEqual(Far.read("x & 1", {"x": WIDE}).form, 0)

    def test_bad_text_goes_ahead_of_not_a_number(self):
        self.raises(BadText, {"place": 4}, Far.read, "x + ", {"x": None})
        self.raises(BadText, {"place": 0}, Far.read, None, {"x": None})
        self.raises(BadText, {"place": 2}, Far.read, "x y", {"x": None})

    def test_not_a_number_goes_ahead_of_unknown_name(self):
        self.raises(NotANumber, {"value": None}, Far.read, "x + y", {"z": None})
        self.raises(NotANumber, {"value": "5"}, Far.read, "1 // 0", {"z": "5"})
        self.raises(NotANumber, {"value": True}, Far.read, "1", {"a": 1, "z": True})

    def test_names_are_looked_at_in_ascending_order(self):
        for values in [{"c": None, "b": "b", "a": 1}, {"b": "b", "c": None}, {"a": 1, "b": "b", "c": None, "bb": True}]:
            self.raises(NotANumber, {"value": "b"}, Far.read, "x", values)
        self.raises(NotANumber, {"value": True}, Far.read, "x", {"b": False, "aa": True, "ab": None})

    def test_lists_are_no_numbers_there(self):
        self.raises(NotANumber, {"value": [1, 3]}, Far.read, "x", {"x": [1, 3]})
        self.raises(NotANumber, {"value": (64, 65)}, Far.read, "x", {"x": (64, 65)})

    def test_errors_hold_forms(self):
        y = Far.power(2**64) + 1
        self.raises(UnknownName, {"name": "x"}, Far.read, "y + x", {"y": y})
        self.raises(NotPower, {"value": y.form}, Far.read, "5 // y", {"y": y})
        self.raises(NegativeShift, {"amount": -3}, Far.read, "5 << -y", {"y": Far(3)})
        self.raises(InvalidPower, {"exponent": y.form}, Far.read, "3 ** y", {"y": y})
        self.raises(TooManyTerms, {"terms": 602}, Far.read, "y * -1 * 1", {"y": Far(model.spread(602))})
        self.too_large(model.tower(7), Far.read, "2 ** y", {"y": Far(model.tower(6))})
        self.too_large(model.form(WIDE), Far.read, str(WIDE))
        self.too_large(model.form(WIDE), Far.read, "x", {"x": WIDE})

    def test_the_values_stay(self):
        values = {"b": 1, "a": Far(5)}
        Far.read("a + b", values)
        self.assertEqual(list(values), ["b", "a"])
        self.assertEqual(values, {"b": 1, "a": 5})


class Properties(Case):
    def test_ints(self):
        for x in EDGES + list(range(-40, 40)):
            far = Far(x)
            turns = model.int_turns(x)
            self.assertEqual(far.form, model.form(x))
            self.assertEqual(far.sign, (x > 0) - (x < 0))
            self.assertEqual(far.size, model.size(model.form(x)))
            self.assertEqual(far.height, model.height(model.form(x)))
            self.assertEqual(far.length, turns[-1] if turns else 0)
            self.assertEqual(far.low, turns[0] if turns else None)
            self.assertEqual(far.turns(), turns)
            self.assertEqual(far.whole(), x)
            self.assertEqual(str(far), write_form(model.form(x)))

    def test_far(self):
        source = model.source_of("properties")
        for k in range(60):
            form = model.far_form(model.random_model(source, 1 + k, 5))
            if model.size(form) > 2000 or not isinstance(form, tuple):
                continue
            far = Far(form)
            self.assertEqual(far.sign, -1 if len(form) % 2 else 1)
            self.assertEqual(far.size, model.size(form))
            self.assertEqual(far.height, model.height(form))
            self.assertEqual(far.length.form, form[-1])
            self.assertEqual(far.low.form, form[0])
            self.assertEqual([turn.form for turn in far.turns()], list(form))
            self.assertEqual(str(far), write_form(form))

    def test_kinds(self):
        far = Far.power(2**70) - 5
        for value in [far.sign, far.size, far.height, Far(0).sign, Far(3).whole(), Far(2**70).whole()]:
            self.assertIs(type(value), int)
        for value in [far.length, far.low, Far(0).length, Far(1).low, *far.turns(), *Far(5).turns()]:
            self.assertIs(type(value), Far)
        self.assertIs(Far(0).low, None)
        self.assertIs(type(far.turns()), list)
        self.assertIs(type(str(far)), str)
        self.assertIs(type(far.form), tuple)
        self.assertIs(type(Far(5).form), int)

    def test_example(self):
        self.assertEqual(Far(-8).length, 3)

    def test_turns_are_a_new_list(self):
        for far in [Far(5), Far(2**70 + 5)]:
            turns = far.turns()
            turns.append(7)
            turns[0] = 9
            self.assertEqual(far.turns()[0], 0)
            self.assertEqual(Far(far.turns()), far)

    def test_whole_at_4000_and_4001(self):
        for x in [2**3999, 2**4000 - 1, -2**4000, -2**4000 + 1, 2**3999 + 5]:
            self.assertEqual(Far(x).length, 4000)
            self.assertEqual(Far(x).whole(), x)
        for x in [2**4000, -2**4001, -2**4000 - 1, 2**4001 - 1]:
            self.assertEqual(Far(x).length, 4001)
            self.raises(TooFar, {"bits": Far(4001)}, Far(x).whole)
        self.raises(TooFar, {"bits": Far.power(2**70)}, Far.run(3, Far.power(2**70)).whole)
        self.raises(TooFar, {"bits": Far(2**64)}, (-Far.power(2**64)).whole)

    def test_str(self):
        self.assertEqual(str(Far(2**70 + 5)), "2**70+5")
        self.assertEqual(str(-Far.power(2**64)), "-2**(2**64)")
        self.assertEqual(f"{Far(-7)}", "-7")


if __name__ == "__main__":
    unittest.main()
