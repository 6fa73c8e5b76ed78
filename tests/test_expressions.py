"""[15], [16]: what an expression is, and where a text is none."""

import unittest

from farbits.errors import BadText, FarError
from farbits.far import Far
from farbits.texts import read_form
from tests import grammar, model

ALL_NAMES = {"a": 3, "xy": 5, "zzzzzzzz": 7}
LONG_ROW = "1" * 1000


def bad_place(text):
    """The place of BadText, or None for an expression."""
    try:
        read_form(text, ALL_NAMES)
    except BadText as error:
        return error.place
    except FarError:
        return None
    return None


def reference_place(text):
    try:
        grammar.tree(text)
    except grammar.Bad as bad:
        return bad.place
    return None


class Reading(unittest.TestCase):
    def reads(self, text, value, values=None):
        with self.subTest(text=text[:60]):
            self.assertEqual(read_form(text, values), model.form(value))

    def test_rows_of_digits(self):
        for text, value in [("0", 0), ("7", 7), ("007", 7), ("0000", 0), ("0123456789", 123456789),
                            ("0" * 999 + "5", 5), ("0" * 1000, 0)]:
            self.reads(text, value)
        self.reads(LONG_ROW + " & 1", 1)
        self.reads(LONG_ROW + " >> 3000", int(LONG_ROW) >> 3000)

    def test_names(self):
        for name in ["a", "abcdefgh", "repeats", "ifs", "i", "elses", "ends", "en", "or", "not"]:
            self.reads(name, 17, {name: 17})

    def test_blanks(self):
        for text in ["1+2*a", " 1 + 2 * a ", "1+ 2 *a", "   1   +2*   a   "]:
            self.reads(text, 7, {"a": 3})
        self.reads(" ( 5 ) ", 5)
        self.reads("- - ~ 5", -(-(~5)))
        self.reads("2 ** - 0", 1)

    def test_operators_bind_as_in_python(self):
        for text in ["1 | 2 ^ 3", "7 ^ 3 & 5", "12 & 1 << 2", "1 << 1 + 2", "2 + 3 * 4", "2 * 3 + 4",
                     "20 - 3 - 4", "2 * 9 // 2 * 3", "100 >> 2 << 1", "64 // 4 // 2", "7 - 2 + 4",
                     "-2**2", "~2**2", "(-2)**2", "2**3**2", "(2**3)**2", "-2 - -3", "~5 & 12",
                     "- 5 // 2", "-5 * 3", "2 * -3 ** 3", "1 ^ 2 | 3 ^ 4", "1 | 6 & 3 | 8", "~1 ^ ~2 & -3",
                     "5 & 6 ^ 7 | 8 << 1 + 2 * 3 ** 2", "3 ** 2 * 2 + 1 << 3 & 255 ^ 9 | 6",
                     "+5", "+-+~5", "2 ** +3", "3 ** 2 ** 2", "10 - 2 ** 2 ** 1 - 1", "(1 | 2) & 3"]:
            self.reads(text, eval(text))

    def test_a_power_binds_tighter_than_what_stands_ahead_of_it(self):
        self.reads("-2**2", -4)
        self.reads("~3**2", -10)
        self.reads("2**-0**5", 1)
        self.reads("2**~-3", 4)
        self.reads("2**-~2", 8)
        self.reads("2**-(0)*3", 3)

    def test_the_right_side_of_a_power_may_begin_with_signs(self):
        self.assertIsNone(bad_place("2**-1"))
        self.assertIsNone(bad_place("2** - ~ + 1"))
        self.assertIsNone(bad_place("-2**-3"))

    def test_the_longest_operator_is_read_first(self):
        self.assertEqual(bad_place("2***2"), 3)
        self.assertEqual(bad_place("2****2"), 3)
        self.assertEqual(bad_place("2///2"), 3)
        self.assertEqual(bad_place("2<<<2"), 3)
        self.assertEqual(bad_place("2>>>2"), 3)
        self.assertEqual(bad_place("2* *2"), 3)
        self.assertEqual(bad_place("2/ /2"), 1)
        self.assertEqual(bad_place("2< <2"), 1)

    def test_any_number_of_characters(self):
        self.reads("1+" * 30000 + "1", 30001)
        self.reads("(1)*" * 10000 + "1", 1)
        self.reads(" " * 50000 + "1" + " " * 50000, 1)
        self.reads("-1-" * 10000 + "1", 9997)

    def test_random_values(self):
        source = model.source_of("random values")
        values = {"a": -1, "b": 2**64, "c": -2**70 + 5, "d": 6}
        words = ["0", "1", "2", "3", "07", "64", "a", "b", "c", "d", "zz"]
        read = 0
        for _ in range(6000):
            text = grammar.random_text(source, source.randrange(1, 12), words)
            try:
                expected = grammar.value(grammar.tree(text), values)
            except (grammar.Bad, grammar.Skipped):
                continue
            except grammar.Fault as fault:
                with self.subTest(text=text):
                    with self.assertRaises(FarError) as caught:
                        read_form(text, {name: model.form(x) for name, x in values.items()})
                    self.assertEqual(type(caught.exception).__name__, str(fault))
                continue
            read += 1
            self.reads(text, expected, {name: model.form(x) for name, x in values.items()})
        self.assertGreater(read, 1000)


class BadTexts(unittest.TestCase):
    def bad(self, text, place):
        with self.subTest(text=text):
            for read in (read_form, Far.read):
                with self.assertRaises(BadText) as caught:
                    read(text)
                self.assertEqual(caught.exception.place, place)
                self.assertIs(type(caught.exception.place), int)

    def test_examples(self):
        for text, place in [("2x", 1), ("x2", 1), ("1/2", 1), ("1=", 1), ("2 2", 2), ("2***2", 3),
                            ("1 + ", 4), ("abcdefghi", 0), ("", 0)]:
            self.bad(text, place)

    def test_no_strings(self):
        for value in [None, 5, True, b"1", ["1"], ("1",), {"1": 1}, Far(1), object()]:
            self.bad(value, 0)

    def test_what_begins_no_token(self):
        for sign in "/=!@#$%?.,:;'\"\\[]{}_`AZ\t\n\r\u00a0\u0661\u00b2\u00e9\u2003\x00":
            self.bad(sign, 0)
            self.bad("1" + sign, 1)
            self.bad("1 + " + sign + "2", 4)
            self.bad("(1" + sign, 2)
        for sign in ["<", ">", "<=", ">=", "==", "!=", "= =", "<>"]:
            self.bad("1" + sign + "2", 1)
            self.bad("1 + " + sign, 4)
            self.bad("(1 " + sign + " 2)", 3)

    def test_what_cannot_stand_there(self):
        for text, place in [("*2", 0), ("1 + * 2", 4), ("1 + )", 4), (")", 0), ("()", 1), ("1)", 1),
                            ("(1))", 3), ("(1)(2)", 3), ("(1) 2", 4), ("a b", 2), ("2 (3)", 2), ("a(3)", 1),
                            ("1 ~ 2", 2), ("1 ~2", 2), ("2**", 3), ("2** *3", 4), ("2 ** ** 3", 5), ("**2", 0),
                            ("1 + + ", 6), ("-", 1), ("~ ", 2), ("(", 1), ("(1", 2), ("((1)", 4), ("(1 + ", 5),
                            ("   ", 3), (" 1 1 ", 3), ("1a", 1), ("a1", 1), ("1a2", 1), ("a1b", 1)]:
            self.bad(text, place)

    def test_words_that_are_no_names(self):
        for word in ["repeat", "if", "else", "end", "abcdefghi", "z" * 9, "repeatrepeat"]:
            self.bad(word, 0)
            self.bad("1 + " + word, 4)
            self.bad("1 + (" + word, 5)
            self.bad("1 " + word, 2)
        self.assertIsNone(bad_place("zzzzzzzz"))
        for word in ["Abc", "aBc", "a_b", "a.b"]:
            self.assertIsNotNone(bad_place(word))

    def test_1000_and_1001_digits(self):
        self.assertIsNone(bad_place("0" * 1000))
        self.bad("0" * 1001, 0)
        self.bad("1" * 1001, 0)
        self.bad("3 + " + "1" * 1001, 4)
        self.bad("3 + (" + "0" * 5000 + "x", 5)
        self.assertIsNone(bad_place(LONG_ROW + "&" + LONG_ROW))

    def test_20_and_21_levels(self):
        for opening, closing, width in [("(", ")", 1), ("-", "", 1), ("~", "", 1), ("+", "", 1),
                                        ("2**", "", 3), ("(-", ")", 1), ("2**-", "", 1), ("- (", ")", 2)]:
            kinds = 2 if opening in ("(-", "2**-", "- (") else 1
            many = 20 // kinds
            self.assertIsNone(bad_place(opening * many + "1" + closing * many))
            text = opening * many
            self.bad(text + opening + "1", len(text) + (1 if opening == "2**" or opening == "2**-" else 0))

    def test_levels_of_all_kinds_count_together(self):
        self.assertIsNone(bad_place("-2**-3"))
        self.assertIsNone(bad_place("(" * 17 + "-2**-3" + ")" * 17))
        self.bad("(" * 18 + "-2**-3", 18 + 4)
        self.bad("(" * 19 + "-2**-3", 19 + 2)
        self.bad("(" * 20 + "-2**-3", 20)
        self.bad("(" * 20 + "3**2", 21)
        self.bad("-" * 20 + "2**3", 21)
        self.bad("-" * 20 + "(2)", 20)

    def test_levels_end(self):
        twenty = "(" * 20 + "1" + ")" * 20
        self.assertIsNone(bad_place(twenty + " + " + twenty + " * " + twenty))
        signs = "-" * 20 + "1"
        self.assertIsNone(bad_place(signs + "+" + signs + "|" + signs))
        powers = "1**" * 20 + "1"
        self.assertIsNone(bad_place(powers + "*" + powers + "*" + "-" * 20 + "1"))
        self.assertIsNone(bad_place("(" * 19 + "-1*-1" + ")" * 19 + "*-1"))
        self.assertIsNone(bad_place("(" * 19 + "1**1*1**1" + ")" * 19 + "**1"))
        self.bad("(" * 19 + "1**1**1", 19 + 4)
        self.bad("(" * 19 + "1" + ")" * 19 + "-" + "(" * 19 + "--1", 60)

    def test_the_first_one_counts(self):
        self.bad("1 + ) + abcdefghi + ((", 4)
        self.bad("abcdefghi )", 0)
        self.bad("1 2 /", 2)
        self.bad("zz + 1 / ", 7)
        self.bad("(" * 21 + "/", 20)

    def test_random_texts(self):
        source = model.source_of("random texts")
        words = ["0", "12", "a", "xy", "zzzzzzzz", "if", "zzzzzzzzz"]
        good = 0
        for k in range(12000):
            text = grammar.random_text(source, source.randrange(14), words[:5 + k % 3])
            if source.random() < 0.3:
                place = source.randrange(len(text) + 1)
                text = text[:place] + source.choice("/=!<> )(-*~2a") + text[place:]
            place = reference_place(text)
            good += place is None
            self.assertEqual(bad_place(text), place, text)
        self.assertGreater(good, 2000)

    def test_random_deep_texts(self):
        source = model.source_of("random deep texts")
        for _ in range(3000):
            parts = [source.choice(["(", "-", "~", "2**", "(", "- 1 + ", "1)*"])
                     for _ in range(source.randrange(15, 40))]
            text = "".join(parts) + "1" + ")" * source.randrange(12)
            self.assertEqual(bad_place(text), reference_place(text), text)


if __name__ == "__main__":
    unittest.main()
