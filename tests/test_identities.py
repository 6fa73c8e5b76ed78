"""[36] to [39]: linear expressions, claims, and sums of conjunctions."""

import itertools
import unittest

from farbits.errors import BadText, FarError, NotLinear, TooManyNames
from farbits.identities import conjunctions, counterexample, holds
from tests import grammar, model

SIGNS = ["==", "<=", "<", ">=", ">"]
COMPARE = {
    "==": lambda x, y: x == y, "<=": lambda x, y: x <= y, "<": lambda x, y: x < y,
    ">=": lambda x, y: x >= y, ">": lambda x, y: x > y,
}
NO_STRINGS = [None, True, 5, b"x == x", ["x == x"], ("x", "x"), {}, object()]


class NoLinear(Exception):
    def __init__(self, place):
        super().__init__(place)
        self.place = place


def kind_of(node):
    """("int", value), ("bits",) or ("sum",) of a tree by the definition, or NoLinear."""
    if isinstance(node, int):
        return ("int", node)
    if isinstance(node, str):
        return ("bits",)
    sides = [kind_of(side) for side in node[2:]]
    if node[0] in ["**", "//", ">>"]:
        raise NoLinear(node[1])
    if node[0] == "<<" and not (sides[1][0] == "int" and 0 <= sides[1][1] <= 64):
        raise NoLinear(node[1])
    if all(side[0] == "int" for side in sides):
        return ("int", grammar.value((node[0], 0, *[side[1] for side in sides]), {}))
    if node[0] in ["&", "|", "^"]:
        if not all(side in [("bits",), ("int", 0), ("int", -1)] for side in sides):
            raise NoLinear(node[1])
        return ("bits",)
    if node[0] == "~" and sides[0] == ("bits",):
        return ("bits",)
    if node[0] == "*" and all(side[0] != "int" for side in sides):
        raise NoLinear(node[1])
    return ("sum",)


def names_in(node):
    if isinstance(node, int):
        return set()
    if isinstance(node, str):
        return {node}
    return set().union(*[names_in(side) for side in node[2:]])


def random_linear(source, names, depth):
    """The text of a linear expression, in parentheses unless it is short."""
    kind = source.random()
    if depth == 0 or kind < 0.1:
        return source.choice([random_bits(source, names, 1), str(source.randrange(6))])
    if kind < 0.35:
        return random_bits(source, names, depth)
    if kind < 0.7:
        left, right = [random_linear(source, names, depth - 1) for _ in range(2)]
        return f"({left} {source.choice('+-')} {right})"
    if kind < 0.8:
        return source.choice("+-~") + random_linear(source, names, depth - 1)
    inner = random_linear(source, names, depth - 1)
    factor = source.choice(["2", "3", "(-1)", "(1 - 4)", "0", "7", "(2 << 1)"])
    if kind < 0.9:
        return f"({factor} * {inner})" if source.random() < 0.5 else f"({inner} * {factor})"
    return f"({inner} << {source.choice(['0', '1', '2', '(3 - 1)'])})"


def random_bits(source, names, depth):
    if depth == 0 or source.random() < 0.2:
        return source.choice(names)
    if source.random() < 0.25:
        return "~" + random_bits(source, names, depth - 1)
    left, right = [random_bits(source, names, depth - 1) for _ in range(2)]
    if source.random() < 0.15:
        right = source.choice(["0", "(-1)", "(3 - 4)", "~0"])
    if source.random() < 0.5:
        left, right = right, left
    return f"({left} {source.choice('&|^')} {right})"


class Case(unittest.TestCase):
    def raises(self, error, fields, function, *arguments, **named):
        with self.assertRaises(error) as caught:
            function(*arguments, **named)
        self.assertIs(type(caught.exception), error)
        self.assertEqual(vars(caught.exception), fields)
        for value in fields.values():
            self.assertIs(type(value), int)

    def refuses(self, claim, error, value):
        field = "count" if error is TooManyNames else "place"
        with self.subTest(claim=claim):
            self.raises(error, {field: value}, holds, claim)
            self.raises(error, {field: value}, counterexample, claim)
            self.raises(error, {field: value}, counterexample, claim, from_zero=["x"])

    def true(self, claim, from_zero=()):
        with self.subTest(claim=claim, from_zero=from_zero):
            self.assertIs(holds(claim, from_zero=from_zero), True)
            self.assertIsNone(counterexample(claim, from_zero=from_zero))

    def false(self, claim, from_zero=()):
        with self.subTest(claim=claim, from_zero=from_zero):
            self.assertIs(holds(claim, from_zero=from_zero), False)
            values = counterexample(claim, from_zero=from_zero)
            self.check_values(claim, from_zero, values)

    def check_values(self, claim, from_zero, values):
        left, sign, right = grammar.claim(claim)
        self.assertIs(type(values), dict)
        self.assertEqual(set(values), names_in(left) | names_in(right))
        for name, value in values.items():
            self.assertIs(type(value), int)
            self.assertFalse(name in from_zero and value < 0)
        self.assertFalse(COMPARE[sign](grammar.value(left, values), grammar.value(right, values)))


class Claims(Case):
    def test_examples(self):
        self.true("x + y == (x ^ y) + 2 * (x & y)")
        self.true("(x & y) <= x", ["x"])
        self.false("(x & y) <= x")
        self.refuses("x = y", BadText, 2)
        self.refuses("x != y", BadText, 2)
        self.refuses("1 < 2 < 3", BadText, 6)
        for expression in ["3*(x & ~y) - ((x ^ z) << 2) + 7"]:
            self.true(f"{expression} == {expression}")
        for expression, place in [("x & 3", 2), ("(x + y) & z", 8), ("x * y", 2), ("x * (0 * y)", 2),
                                  ("(+x) & y", 5), ("2**3", 1)]:
            self.refuses(expression + " == 0", NotLinear, place)

    def test_known_identities(self):
        for claim in ["(x | y) == x + y - (x & y)",
                      "x - y == (x ^ y) - 2 * (~x & y)", "-x == ~x + 1", "-x == ~(x - 1)",
                      "(x ^ y) == (x | y) - (x & y)", "(x & (y | z)) == (x & y | x & z)",
                      "~(x & y) == ~x | ~y", "x + y == (x | y) + (x & y)", "x == x", "x <= x", "x < x + 1",
                      "x - 1 < x", "(x & 0) == 0", "(x | -1) == -1", "(x ^ -1) == ~x", "(0 ^ x) == x",
                      "x + x == x << 1", "x * 0 == 0", "0 == 0 * x", "(a ^ b ^ c) + 2 * (a & b | a & c | b & c) == a + b + c",
                      "(v ^ w ^ x ^ y ^ z) == (z ^ y ^ x ^ w ^ v)", "(x << 64) == 18446744073709551616 * x"]:
            self.true(claim)
        for claim in ["x == y", "x <= y", "x < x", "x + 1 <= x", "(x ^ y) == x + y", "(x | y) == x + y",
                      "x >= 0", "x <= 0", "(x & y) >= 0", "x + x == x << 2", "(x & ~x) == 1", "x > -1"]:
            self.false(claim)

    def test_from_zero(self):
        for claim in ["x >= 0", "x > -1", "(x & y) >= 0", "(x & y) <= x", "(x | y) >= y", "x + 1 > 0",
                      "2 * x >= x", "-x <= 0", "0 <= x", "(x & ~y) >= 0", "(x | ~x) < x"]:
            self.true(claim, ["x"])
        for claim in ["y >= 0", "(x | y) >= 0", "x > 0", "x <= 0", "x == 0", "x >= 1", "x < 1"]:
            self.false(claim, ["x"])
        for claim in ["(x | y) >= x", "x + y >= (x | y)", "(x ^ y) <= x + y", "(x | y) - (x & y) >= 0"]:
            self.true(claim, ["x", "y"])
            self.true(claim, ("y", "x"))
            self.false(claim)
        self.false("(x | y) <= x", ["x", "y"])

    def test_names_that_the_claim_does_not_have_mean_nothing(self):
        self.true("x >= 0", ["a", "x", "b", "zzz"])
        self.false("x >= 0", ["y"])
        self.true("1 < 2", ["x"])
        self.assertEqual(counterexample("x == 5", from_zero=["y"]).keys(), {"x"})

    def test_by_name_alone(self):
        with self.assertRaises(TypeError):
            holds("x >= 0", ["x"])
        with self.assertRaises(TypeError):
            counterexample("x >= 0", ["x"])
        self.assertIs(holds(claim="x >= 0", from_zero=["x"]), True)
        self.assertIs(counterexample(claim="x == x"), None)
        self.assertEqual(conjunctions(expression="x"), ((("x",), 1),))

    def test_no_names(self):
        for x in range(-3, 4):
            for y in range(-3, 4):
                for sign in SIGNS:
                    claim = f"{x} {sign} {y}"
                    if COMPARE[sign](x, y):
                        self.true(claim)
                    else:
                        self.false(claim)
                        self.assertEqual(counterexample(claim), {})

    def test_integer_parts(self):
        for text in ["3 + 4 * 5", "-(2 - 9)", "1 << 64", "(5 | 8) & ~3", "6 ^ 3", "-7 & 12", "~~5", "0 << 3",
                     "(1 << 64 << 64) * (1 << 64) - 1", "1 << 32 + 32", "1 << (2 | 4)", "+5 - -5", "12 & 10 | 1"]:
            self.true(f"{text} == {eval(text)}" if eval(text) >= 0 else f"{text} == 0 - {-eval(text)}")
            self.false(f"{text} == {eval(text) + 1}" if eval(text) >= 0 else f"{text} == 0")
            self.true(f"({text}) * x == x * ({text})")
        self.true("9" * 1000 + " * x + x == 1" + "0" * 500 + " * x * 1" + "0" * 500)

    def test_ints_of_any_size(self):
        row = "9" * 900
        self.false(f"{row} * x >= y")
        self.false(f"{row} * x >= y", ["x", "y"])
        self.false(f"x <= {row}")
        self.false(f"x <= {row}", ["x"])
        self.false(f"{row} * {row} * x + {row} > y", ["x"])
        self.true(f"x * {row} >= x", ["x"])
        self.false(f"x * {row} >= {row} * x + (y & z) + (1 << 64)", ["x", "z"])

    def test_many_tokens(self):
        self.true(" + ".join(["x"] * 3000) + " == 3000 * x")
        self.true(" ^ ".join(["x"] * 3001) + " == x")
        self.true("+ 0".join(["1"] * 5000) + " == 5000")

    def test_random_claims(self):
        source = model.source_of("claims")
        true = 0
        for _ in range(2500):
            names = ["x", "y", "zz"][:source.randrange(1, 4)]
            left = random_linear(source, names, source.randrange(1, 4))
            right = random_linear(source, names, source.randrange(1, 4))
            if source.random() < 0.4:
                right = f"({left} + {source.choice(['0', '1', '0 * x'])} - {source.choice(['0', 'y & x' , '1'])})"
                right = right.replace("y & x", "(y & x)")
            claim = f"{left} {source.choice(SIGNS)} {right}"
            true += self.check(claim, [name for name in names if source.random() < 0.5])
        self.assertGreater(true, 100)

    def check(self, claim, from_zero):
        """Whether a claim holds; that it does, or does not, is compared with small ints."""
        values = counterexample(claim, from_zero=from_zero)
        self.assertIs(holds(claim, from_zero=from_zero), values is None, claim)
        if values is not None:
            self.check_values(claim, from_zero, values)
            return False
        left, sign, right = grammar.claim(claim)
        names = sorted(names_in(left) | names_in(right))
        choices = [range(0 if name in from_zero else -4, 4) for name in names]
        for row in itertools.product(*choices):
            told = dict(zip(names, row))
            self.assertTrue(COMPARE[sign](grammar.value(left, told), grammar.value(right, told)), claim)
        return True

    def test_claims_that_are_almost_true(self):
        # They are false for large numbers only, or for a single row of bits.
        for claim, from_zero in [("x <= 1000", ["x"]), ("1000 * (x & y) <= 999 * x + 5000", ["x", "y"]),
                                 ("(x & y & z) <= 0", ["x"]), ("(a & b & c & d & e) == 0", "abcde"),
                                 ("x <= y + 100000", ["x", "y"]), ("x > -100", []), ("5 * x > 4 * x - 7", []),
                                 ("(x & ~y) <= 2000000", ["x"]), ("(x & ~y) - (~x & y) + 9 >= 0", ["x", "y"])]:
            self.false(claim, list(from_zero))

    def test_arguments_stay(self):
        from_zero = ["x", "y"]
        holds("x >= 0", from_zero=from_zero)
        values = counterexample("x == y", from_zero=from_zero)
        values["x"] = 77
        self.assertEqual(from_zero, ["x", "y"])
        self.assertNotEqual(counterexample("x == y", from_zero=from_zero), values)


class Refused(Case):
    def test_bad_texts(self):
        for value in NO_STRINGS:
            self.refuses(value, BadText, 0)
        for claim, place in [("", 0), ("x", 1), ("x  ", 3), ("x + 1", 5), ("x ==", 4), ("x == ", 5), ("== x", 0),
                             ("x === y", 4), ("x == == y", 5), ("x < = y", 4), ("x => y", 2), ("x =< y", 2),
                             ("x <> y", 3), ("x <<= y", 4), ("x >>= y", 4), ("x == y)", 6), ("(x == y)", 3),
                             ("(x) == (y", 9), ("(x < y) == 1", 3), ("x == y == z", 7), ("x <= y <= z", 7),
                             ("x == 2y", 6), ("x + == y", 4), ("x == y !", 7), ("1 ! 2", 2), ("x == abcdefghi", 5),
                             ("if == 3", 0), ("x == " + "1" * 1001, 5), ("x < -", 5), ("x >= y >", 7), ("x == y\n", 6),
                             ("(" * 20 + "1" + ")" * 20 + " == " + "-" * 21 + "1", 65), ("x ! = y", 2)]:
            self.refuses(claim, BadText, place)
        for claim in ["x==y", " x == y ", "x<y", "(x)<(y)", "x<-y", "x<~y", "x>-1", "x<=-y", "x>=~y"]:
            self.false(claim)
        self.true("-" * 20 + "1 == " + "-" * 20 + "1")

    def test_too_many_names(self):
        self.true("v + w + x + y + z == z + y + x + w + v")
        self.refuses("u + v + w + x + y + z == 0", TooManyNames, 6)
        self.refuses("u + v + w == x + y + z", TooManyNames, 6)
        self.refuses("(u & v & w) == a * b * c * d", TooManyNames, 7)
        self.refuses("a ** b // c >> d << e & f == 5", TooManyNames, 6)
        self.refuses("a + b + c + d + e + f ==", BadText, 24)
        self.refuses("a * b * c * d * e == a", NotLinear, 2)
        self.assertIs(holds(" + ".join("abcde" * 3) + " == 3 * (a + b + c + d + e)"), True)

    def test_not_linear(self):
        for claim, place in [("x >> 1 == x", 2), ("x // 2 == x", 2), ("x ** 1 == x", 2), ("1 >> 0 == 1", 2),
                             ("4 // 2 == 2", 2), ("2 ** 3 == 8", 2), ("x << 65 == x", 2), ("x << -1 == x", 2),
                             ("x << y == x", 2), ("1 << 65 == 0", 2), ("1 << x == 0", 2), ("0 << -1 == 0", 2),
                             ("x & 1 == x", 2), ("-2 | x == x", 3), ("x ^ 2 == x", 2), ("x & -x == x", 2), ("-x & x == 1", 3),
                             ("x & +x == x", 2), ("(x << 0) & y == 0", 9), ("(x * 1) & y == 0", 8), ("(x + 0) | y == 0", 8),
                             ("x & (0 * y) == 0", 2), ("x << 0 * y == 0", 2), ("~(x + 1) & y == 0", 9),
                             ("x * x == 0", 2), ("(x - x) * x == 0", 8), ("x * (y & 0) == 0", 2), ("5 == x & 3", 7),
                             ("x + y * z + (x & 3) == 0", 6), ("(x & 3) + y * z == 0", 3), ("x == 3 & (x * y)", 12),
                             ("x & 3 == y & 5", 2), ("x == (x & 3) + (y & 5)", 8), ("x << 2 ** 3 == 5", 7),
                             ("x * y ** 2 == 5", 6), ("(x ** y) == 0", 3), ("-x ** 2 == 0", 3), ("x * y * z == 0", 2)]:
            self.refuses(claim, NotLinear, place)
        for claim in ["x << 64 == x * (1 << 64)", "x << 0 == x", "(x & (1 - 1)) == 0", "(x | ~0) == -1",
                      "((x) & ((y))) == (y & x)", "(-1 ^ x) == ~x", "(x & 0 & y) == 0",
                      "(x & (5 & -6)) == 0", "~x + 1 == -x", "~(x + y) == -(x + y) - 1", "~(2 * x) == -2 * x - 1", "+x == x",
                      "x << (1 << 1) == 4 * x", "(x << 1) << 63 == x << 64", "1 - 0 * x == 1"]:
            self.true(claim)

    def test_random_claims(self):
        source = model.source_of("refused claims")
        words = ["x", "y", "0", "1", "3", "zz", "a", "b", "c", "d", "e"]
        seen = {None: 0, BadText: 0, TooManyNames: 0, NotLinear: 0}
        for _ in range(8000):
            many = source.choice([3, 6, 6, 20])
            parts = [grammar.random_text(source, source.randrange(many), words[:source.choice([2, 5, 9, 11])])
                     for _ in range(2)]
            claim = (" " + source.choice(SIGNS) + " ").join(parts)
            if source.random() < 0.1:
                place = source.randrange(len(claim) + 1)
                claim = claim[:place] + source.choice("<>=!)( *x1") + claim[place:]
            expected = reference_error(claim)
            found = (None, None)
            try:
                holds(claim)
            except FarError as error:
                found = (type(error), *vars(error).values())
            self.assertEqual(found, expected, claim)
            seen[expected[0]] += 1
        self.assertGreater(min(seen.values()), 50)


def reference_error(claim):
    try:
        left, _, right = grammar.claim(claim)
    except grammar.Bad as bad:
        return (BadText, bad.place)
    names = names_in(left) | names_in(right)
    if len(names) > 5:
        return (TooManyNames, len(names))
    try:
        kind_of(left)
        kind_of(right)
    except NoLinear as wrong:
        return (NotLinear, wrong.place)
    return (None, None)


class Conjunctions(Case):
    def test_examples(self):
        self.assertEqual(conjunctions("x | y"), ((("x",), 1), (("y",), 1), (("x", "y"), -1)))
        self.assertEqual(conjunctions("0"), ())
        self.assertEqual(conjunctions("x - x"), ())

    def test_known(self):
        for text, pairs in [("5", [((), 5)]), ("-1", [((), -1)]), ("x", [(("x",), 1)]), ("~x", [((), -1), (("x",), -1)]),
                            ("x ^ y", [(("x",), 1), (("y",), 1), (("x", "y"), -2)]), ("3 * x + 7", [((), 7), (("x",), 3)]),
                            ("y + x", [(("x",), 1), (("y",), 1)]), ("x & y", [(("x", "y"), 1)]),
                            ("(b & a) + (c & a) + c + 2 * b", [(("b",), 2), (("c",), 1), (("a", "b"), 1), (("a", "c"), 1)]),
                            ("x & -1", [(("x",), 1)]), ("x & 0", []), ("x | -1", [((), -1)]), ("~0", [((), -1)]),
                            ("-(x | y) + x", [(("y",), -1), (("x", "y"), 1)]), ("x << 64", [(("x",), 2**64)])]:
            self.assertEqual(conjunctions(text), tuple(pairs), text)

    def test_kinds(self):
        result = conjunctions("(b ^ a) + 9")
        self.assertIs(type(result), tuple)
        for pair in result:
            self.assertIs(type(pair), tuple)
            names, coefficient = pair
            self.assertIs(type(names), tuple)
            self.assertIs(type(coefficient), int)

    def test_order(self):
        result = conjunctions("e | d | cc | b | a")
        self.assertEqual(len(result), 31)
        names = [pair[0] for pair in result]
        self.assertEqual(names, sorted(names, key=lambda told: (len(told), told)))
        self.assertEqual(names[0], ("a",))
        self.assertEqual(names[-1], ("a", "b", "cc", "d", "e"))
        self.assertEqual([pair[1] for pair in result], [(-1)**(len(told) + 1) for told in names])
        result = conjunctions("b ^ a ^ ab ^ ba")
        names = [pair[0] for pair in result]
        self.assertEqual(names, sorted(names, key=lambda told: (len(told), told)))
        self.assertEqual(names[:4], [("a",), ("ab",), ("b",), ("ba",)])

    def test_random(self):
        source = model.source_of("conjunctions")
        for _ in range(600):
            names = ["x", "y", "zz", "a", "b"][:source.randrange(1, 6)]
            text = random_linear(source, names, source.randrange(1, 6))
            try:
                node = grammar.tree(text)
            except grammar.Bad as bad:
                self.raises(BadText, {"place": bad.place}, conjunctions, text)
                continue
            result = conjunctions(text)
            keys = [pair[0] for pair in result]
            self.assertEqual(keys, sorted(set(keys), key=lambda told: (len(told), told)))
            for told, coefficient in result:
                self.assertEqual(list(told), sorted(set(told)))
                self.assertTrue(set(told) <= names_in(node))
                self.assertNotEqual(coefficient, 0)
            for _ in range(6):
                values = {name: source.randrange(-2**20, 2**20) for name in names}
                self.assertEqual(sum(coefficient * conjunction(told, values) for told, coefficient in result),
                                 grammar.value(node, values), text)

    def test_errors(self):
        for value in NO_STRINGS:
            self.raises(BadText, {"place": 0}, conjunctions, value)
        for text, place in [("", 0), ("x == y", 2), ("x +", 3), ("x < y", 2), ("x y", 2), ("x = y", 2)]:
            self.raises(BadText, {"place": place}, conjunctions, text)
        self.raises(TooManyNames, {"count": 6}, conjunctions, "a * b * c * d * e * f")
        self.raises(TooManyNames, {"count": 7}, conjunctions, "a + b + c + d + e + f + g")
        self.raises(NotLinear, {"place": 2}, conjunctions, "x & 3")
        self.raises(NotLinear, {"place": 6}, conjunctions, "x + y * z + 2 ** 3")

    def test_ints_of_any_size(self):
        row = "9" * 1000
        self.assertEqual(conjunctions(f"{row} * {row} * (x & y) - {row}"),
                         (((), -int(row)), (("x", "y"), int(row)**2)))


def conjunction(names, values):
    """The value of some names joined by &, 1 for no names."""
    if not names:
        return 1
    result = -1
    for name in names:
        result &= values[name]
    return result


if __name__ == "__main__":
    unittest.main()
