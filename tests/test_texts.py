"""[17], [18]: read_form and write_form."""

import re
import unittest

from farbits.errors import BadText, InvalidPower, NegativeShift, NotPower, TooLarge
from farbits.errors import TooManyTerms, UnknownName
from farbits.forms import negate, subtract, successor
from farbits.products import shift_left
from farbits.texts import read_form, write_form
from tests import model

FAR = (64, 65)
# A row of digits whose size is too large: every other bit is a one.
WIDE = str(int("10" * 1100, 2))


class Case(unittest.TestCase):
    def raises(self, error, fields, *arguments):
        with self.assertRaises(error) as caught:
            read_form(*arguments)
        self.assertEqual(vars(caught.exception), fields)


class ReadForm(Case):
    def test_example(self):
        self.assertEqual(read_form("2**64 + 1 // 2"), (64, 65))

    def test_far_numbers(self):
        self.assertEqual(read_form("2**(2**64)"), (FAR, (0, 1, 64, 65)))
        self.assertEqual(read_form("2**2**2**2**64"), model.tower(4))
        self.assertEqual(read_form("-2**2**70 - 5"), read_form("-(2**(2**70) + 5)"))
        self.assertEqual(read_form("(1 << 2**70) - (1 << 64)"), (64, (70, 71)))
        self.assertEqual(read_form("2**2**70 // 2**2**70"), 1)
        self.assertEqual(read_form("2**2**70 >> 2**70 - 3"), 8)
        self.assertEqual(read_form("~(2**2**70) ^ -1"), ((70, 71), (0, 1, 70, 71)))

    def test_values(self):
        values = {"x": FAR, "y": -3, "z": model.tower(3)}
        self.assertEqual(read_form("x", values), FAR)
        self.assertEqual(read_form("y * y", values), 9)
        self.assertEqual(read_form("z - x", values), subtract(model.tower(3), FAR))
        self.assertEqual(read_form("2 ** z // z", values), subtract_powers(model.tower(3), model.tower(2)))
        self.assertEqual(values, {"x": FAR, "y": -3, "z": model.tower(3)})
        self.assertEqual(read_form(values={"a": 1}, text="a"), 1)
        self.assertEqual(read_form("5", None), 5)
        self.assertEqual(read_form("5", {}), 5)

    def test_unknown_names(self):
        self.raises(UnknownName, {"name": "x"}, "x")
        self.raises(UnknownName, {"name": "x"}, "x", None)
        self.raises(UnknownName, {"name": "x"}, "1 + x * y", {"y": 1})
        self.raises(UnknownName, {"name": "y"}, "x + y", {"x": 1, "z": 2})
        self.raises(UnknownName, {"name": "a"}, "b ** a", {"b": 1})
        self.raises(UnknownName, {"name": "b"}, "b ** a", {})

    def test_bad_text_goes_first(self):
        self.raises(BadText, {"place": 9}, "x + y // /", {})
        self.raises(BadText, {"place": 7}, "1 // 0 1", {})
        self.raises(BadText, {"place": 6}, "x + 1 )", {})
        self.raises(BadText, {"place": 0}, None, {})

    def test_errors_hold_forms(self):
        far = model.tower(2)
        self.raises(NotPower, {"value": 0}, "1 // 0")
        self.raises(NotPower, {"value": (0, 1, 64, 65)}, "5 // (2**64 + 1)")
        self.raises(NotPower, {"value": (far,)}, "5 // x", {"x": (far,)})
        self.raises(NegativeShift, {"amount": -1}, "0 << -1")
        self.raises(NegativeShift, {"amount": (0, 64, 65)}, "0 >> -2**64 - 1")
        self.raises(InvalidPower, {"exponent": -1}, "2 ** -1")
        self.raises(InvalidPower, {"exponent": 65}, "3 ** 65")
        self.raises(InvalidPower, {"exponent": far}, "1 ** x", {"x": far})
        self.raises(TooManyTerms, {"terms": 602}, "x * 1", {"x": model.spread(301)})
        self.raises(TooLarge, {"parts": model.size(model.tower(7)), "levels": 7}, "2**x", {"x": model.tower(6)})

    def test_order_of_evaluation(self):
        self.raises(NotPower, {"value": 0}, "1 // 0 + x", {})
        self.raises(UnknownName, {"name": "x"}, "x + 1 // 0", {})
        self.raises(UnknownName, {"name": "x"}, "1 << -1 * x", {})
        self.raises(NotPower, {"value": 3}, "1 // 3 << -1")
        self.raises(NotPower, {"value": 3}, "(1 << -0) * (1 // 3) * (1 << -1)")
        self.raises(NegativeShift, {"amount": -1}, "2 ** (1 << -1) + 1 // 0")
        self.raises(InvalidPower, {"exponent": -5}, "-(2 ** -5) + 1 // 0")
        self.raises(UnknownName, {"name": "b"}, "2 ** b ** (1 // 0)", {})
        self.raises(NotPower, {"value": 0}, "2 ** -(1 // 0) ** b", {})
        self.raises(UnknownName, {"name": "b"}, "~b & a", {"a": 1})

    def test_each_operator_is_a_call_of_its_own(self):
        parts = model.size(model.form(int(WIDE)))
        too_large = {"parts": parts, "levels": 1}
        self.assertGreater(parts, 2000)
        self.raises(TooLarge, too_large, WIDE)
        self.raises(TooLarge, too_large, "(" + WIDE + ")")
        self.assertEqual(read_form(WIDE + " & 1"), 0)
        self.assertEqual(read_form("1 & (" + WIDE + ")"), 0)
        self.assertEqual(read_form(WIDE + " ** 0"), 1)
        self.raises(TooLarge, too_large, "+" + WIDE + " & 1")
        self.raises(TooLarge, too_large, "(" + WIDE + " + 0) & 1")
        self.raises(TooLarge, too_large, "(" + WIDE + " | 0) & 1")
        self.raises(TooLarge, {"parts": parts + 1, "levels": 1}, "(" + WIDE + " ^ -1) & 1")
        self.raises(TooLarge, {"parts": parts + 1, "levels": 1}, "~" + WIDE + " & 1")
        self.raises(TooLarge, too_large, "x", {"x": model.form(int(WIDE))})
        self.assertEqual(read_form("x & 1", {"x": model.form(int(WIDE))}), 0)

    def test_1000_digits_can_be_a_form(self):
        text = "9" * 1000
        self.assertEqual(read_form(text), model.form(int(text)))
        self.assertEqual(read_form("-" + text + " + " + text), 0)


def subtract_powers(x, y):
    """2**(x - y) for forms."""
    return shift_left(1, subtract(x, y))


def written(x):
    """The text of an int by the definition."""
    if -2**64 <= x < 2**64:
        return str(x)
    if x < 0:
        text = written(-x)
        return "-" + (text if re.fullmatch(r"2\*\*(\d+|\([^()]*\))", text) else "(" + text + ")")
    parts = []
    rest = 0
    turns = model.int_turns(x)
    for low, high in reversed(list(zip(turns[::2], turns[1::2]))):
        if high <= 64:
            rest += 2**high - 2**low
        else:
            parts.append(f"2**{low}" if high == low + 1 else f"2**{high}-2**{low}")
    if rest:
        parts.append(str(rest))
    return "+".join(parts)


class WriteForm(unittest.TestCase):
    def test_examples(self):
        for x, text in [(2**70 + 5, "2**70+5"), (2**70 - 1, "2**70-2**0"),
                        (-(2**70) - 5, "-(2**70+5)")]:
            self.assertEqual(write_form(model.form(x)), text)
        self.assertEqual(write_form(negate((FAR, (0, 1, 64, 65)))), "-2**(2**64)")

    def test_plain(self):
        for x in [0, 1, -1, 10, -17, 2**63, 2**64 - 1, -2**64, -2**64 + 1]:
            self.assertEqual(write_form(x), str(x))

    def test_edges_of_plain(self):
        self.assertEqual(write_form(model.form(2**64)), "2**64")
        self.assertEqual(write_form(model.form(-2**64 - 1)), "-(2**64+1)")
        self.assertEqual(write_form(model.form(-2**65)), "-2**65")
        self.assertEqual(write_form(model.form(2**65 - 2**64 + 2**64)), "2**65")
        self.assertEqual(write_form(model.form(-2**65 - 2**64)), "-(2**66-2**64)")

    def test_runs_that_end_at_64_and_65(self):
        self.assertEqual(write_form(model.form(2**70 + 2**64 - 2**60)), f"2**70+{2**64 - 2**60}")
        self.assertEqual(write_form(model.form(2**70 + 2**65 - 2**60)), "2**70+2**65-2**60")
        self.assertEqual(write_form(model.form(2**70 + 2**64)), "2**70+2**64")
        self.assertEqual(write_form(model.form(2**70 + 2**63)), f"2**70+{2**63}")
        self.assertEqual(write_form(model.form(2**65 - 1)), "2**65-2**0")
        self.assertEqual(write_form(model.form(2**65 - 2**64 + 2**63 - 1)), f"2**64+{2**63 - 1}")
        self.assertEqual(write_form(model.form(2**80 - 2**66 + 2**65 - 2**10 + 77)),
                         "2**80-2**66+2**65-2**10+77")
        self.assertEqual(write_form(model.form(2**80 + 2**64 - 2**62 + 2**61 + 1)),
                         f"2**80+{2**64 - 2**62 + 2**61 + 1}")

    def test_far_places_stand_in_parentheses(self):
        two = model.tower(2)
        self.assertEqual(write_form(two), "2**(2**64)")
        self.assertEqual(write_form(successor(two)), "2**(2**64)+1")
        self.assertEqual(write_form((0, FAR)), "2**(2**64)-2**0")
        self.assertEqual(write_form((FAR, (1, 2, 64, 65), (0, 70), (0, 1, 70, 71))),
                         "2**(2**70+1)-2**(2**70-2**0)+2**(2**64+2)-2**(2**64)")
        self.assertEqual(write_form((2**64 - 1, (64, 65))), f"2**{2**64 - 1}")
        self.assertEqual(write_form((2**64 - 2, (64, 65))), f"2**(2**64)-2**{2**64 - 2}")
        self.assertEqual(write_form((2**64 - 1,)), f"-2**{2**64 - 1}")
        self.assertEqual(write_form((FAR,)), "-2**(2**64)")
        self.assertEqual(write_form((3, FAR)), "2**(2**64)-2**3")
        self.assertEqual(write_form(negate((3, FAR))), "-(2**(2**64)-2**3)")
        self.assertEqual(write_form(model.tower(4)), "2**(2**(2**(2**64)))")
        self.assertEqual(write_form((1, 3, 66, 67, FAR, (1, 2, 64, 65), model.tower(2), model.tower(3))),
                         "2**(2**(2**(2**64)))-2**(2**(2**64))+2**(2**64+2)-2**(2**64)+2**66+6")

    def test_ints(self):
        source = model.source_of("texts of ints")
        for _ in range(600):
            x = model.random_int(source, source.choice([64, 65, 66, 67, 70, 140, 400]))
            self.assertEqual(write_form(model.form(x)), written(x))

    def test_reading_what_is_written(self):
        source = model.source_of("texts")
        checked = 0
        for k in range(300):
            x = model.far_form(model.random_model(source, 1 + k % 40))
            text = write_form(x)
            self.assertRegex(text, r"^[-+*()0-9]+$")
            if model.size(x) <= 600 and model.height(x) <= 5:
                checked += 1
                self.assertEqual(read_form(text), x)
        self.assertGreater(checked, 200)

    def test_reading_what_is_written_at_the_limits(self):
        numbers = [model.spread(599), model.spread(598), model.spread(599, 0), model.spread(599, 63, 1),
                   model.tower(5), (model.tower(4),), (3, model.tower(4))]
        for x in numbers:
            self.assertEqual(read_form(write_form(x)), x)
            self.assertEqual(read_form(write_form(negate(x))), negate(x))

    def test_never_too_large(self):
        self.assertEqual(write_form(model.tower(8)), "2**(2**(2**(2**(2**(2**(2**(2**64)))))))")
        text = write_form(model.spread(5001))
        self.assertEqual(text[:2], "-(")


if __name__ == "__main__":
    unittest.main()
