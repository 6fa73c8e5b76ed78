"""[58], [59], [60], [62]: how programs are read, and runs of them."""

import unittest

from farbits.errors import BadLine, FarError, NegativeShift, NotPower, Stopped, TooLarge, TooLong
from farbits.errors import UnknownName
from farbits.far import Far
from farbits.programs import Program
from farbits.stores import Store
from tests import model
from tests.cases import NO_NAMES, WIDE, WIDE_SIZE, Case
from tests.grammar import Skipped, random_text
from tests.plain_program import BadProgram, PlainRun, Stop, inside, is_folded, read_program


class ProgramCase(Case):
    def bad(self, text, line, place):
        with self.subTest(text=text):
            self.raises(BadLine, {"line": line, "place": place}, Program, text)

    def stops(self, text, values, line, error, fields=None):
        """A run stops with Stopped(line) from an error; the store is as before."""
        program, store = Program(text), Store(values)
        with self.assertRaises(Stopped) as caught:
            program(store)
        self.assertEqual(vars(caught.exception), {"line": line})
        self.assertIs(type(caught.exception.__cause__), error)
        if fields is not None:
            self.assertEqual(vars(caught.exception.__cause__), fields)
        self.assertEqual(store.table(), values)
        self.assertEqual(store.undoable(), 0)

    def runs(self, text, values, expected, done):
        program, store = Program(text), Store(values)
        found = program(store)
        self.assertIs(type(found), int)
        self.assertEqual(found, done)
        self.assertEqual(store.table(), expected)
        self.assertEqual(store.undoable(), 1)


class Reading(ProgramCase):
    def test_lines(self):
        text = "x = 5\n\n  # remark\n#\n   \n  y += x  \nend1 = 2"
        self.bad(text, 7, 0)
        p = Program("x = 5\n\n  # end\n#\n   \n  y += x  \n")
        self.assertEqual((len(p), p.assigned(), p.folded()), (7, ["x", "y"], []))
        for text, many in [("", 1), ("   ", 1), ("\n", 2), ("#", 1), ("\n\n\n", 4), ("# else (", 1)]:
            p = Program(text=text)
            self.assertEqual((len(p), p.assigned(), p.folded()), (many, [], []))

    def test_assignments(self):
        for sign in ["", "+", "-", "*", "//", "<<", ">>", "&", "|", "^"]:
            for text in [f"x{sign}=5", f"  x   {sign}=   5  ", f"x {sign}= (y - 2) * 3", f"abcdefgh{sign}=x<<2"]:
                self.assertEqual(len(Program(text).assigned()), 1)
            if sign:
                self.bad(f"x {sign} = 5", 1, 2)
                self.bad(f"x {sign}", 1, 2)
                self.bad(f"x {sign}=", 1, 3 + len(sign))
                self.bad(f" x {sign}==5", 1, 4 + len(sign))
        for text, place in [("x == 2", 3), ("x **= 2", 2), ("x", 1), ("x   ", 1), ("  x  ", 3), ("x =", 3), ("x =   ", 3),
                            ("x 5", 2), ("x5 = 2", 1), ("x y = 2", 2), ("x != 2", 2), ("x <= 2", 2), ("x >= 2", 2),
                            ("x < 2", 2), ("x /= 2", 2), ("x ~= 2", 2), ("x => 2", 3), ("x = 2 = 3", 6), ("x = 2 == 3", 6),
                            ("x = y <", 6), ("x = (2", 6), ("x = 2)", 5), ("x = 2 3", 6), ("x = 2y", 5), ("x = y2", 5),
                            ("x = 2 # two", 6), ("x = 2; y = 3", 5), ("x\t= 2", 1), ("\tx = 2", 0), ("x = 2\t", 5),
                            ("x = 2\r", 5), ("x = repeat", 4), ("x = 1 + end", 8), ("x = abcdefghi", 4), ("x = ---", 7),
                            ("x += = 2", 5), ("x <<< 2", 2), ("x <<<= 2", 2), ("x ///= 2", 2), ("x &&= 2", 2), ("x =+ 2 +", 8)]:
            self.bad(text, 1, place)
        for text in ["x =+ 2", "x =-2", "x=~2", "x -=-2", "x = 00", "x =" + " " * 5000 + "1", "x = " + "9" * 1000]:
            Program(text)
        self.bad("x = " + "9" * 1001, 1, 4)
        self.bad("x = " + "(" * 21 + "1" + ")" * 21, 1, 24)

    def test_words(self):
        for text, place in [("X = 2", 0), ("5 = 2", 0), ("= 2", 0), ("(x) = 2", 0), ("  $", 2), ("_x = 2", 0), ("~", 0),
                            ("abcdefghi = 2", 0), ("  abcdefghi", 2), ("repeating", 0), ("elsewhere = 1", 0)]:
            self.bad(text, 1, place)
        self.assertEqual(Program("abcdefgh = 1").assigned(), ["abcdefgh"])
        self.assertEqual(Program("repeats = 1\niff = 2\nelses = 3\nends = 4").assigned(), ["elses", "ends", "iff", "repeats"])

    def test_blocks(self):
        for text, place in [("repeat", 6), ("  repeat  ", 8), ("repeat5", 6), ("repeat-5", 6), ("repeat)", 6), ("repeat =", 7),
                            ("repeat = 5", 7), ("repeat 5 == 5", 9), ("repeat x = 5", 9), ("repeat 5 6", 9), ("repeat(5", 8),
                            ("repeat (5))", 10), ("repeat#", 6), ("repeat 2x", 8),
                            ("if", 2), ("if   ", 2), ("if5", 2), ("if~5 < 6", 2), ("if x", 4), ("if x  ", 4), ("if x <", 6),
                            ("if x = 5", 5), ("if x == 5 == 6", 10), ("if (x == 5)", 6), ("if x < 5)", 8), ("if x <> 5", 6),
                            ("if x === 5", 7), ("if x ! 5", 5), ("if x =< 5", 5), ("if x << 5", 9), ("if x <<< 5", 7),
                            ("if (x < 5) == 1", 6), ("if x + < 5", 7), ("if == 5", 3), ("if = 5", 3), ("if x < 5 < 6", 9),
                            ("else", 0), ("  else", 2), ("end", 0), ("  end", 2), ("else x", 0), ("end = 5", 0)]:
            self.bad(text, 1, place)
        for sign in ["==", "!=", "<=", "<", ">=", ">"]:
            Program(f"if x{sign}5\nend")
            Program(f"if(x){sign}(5)\n else \n  end  ")
        Program("repeat(5)\nend")
        Program("repeat (5) + (6)\nend")

    def test_else_and_end(self):
        for text, line, place in [
                ("if 1 < 2\nelse\nelse\nend", 3, 0), ("repeat 2\n else\nend", 2, 1), ("if 1 < 2\nrepeat 2\nelse\nend\nend", 3, 0),
                ("if 1 < 2\nif 1 < 2\nelse\nend\nelse\n  else\nend", 6, 2), ("repeat 2\nend\nend", 3, 0),
                ("if 1 < 2\nend x", 2, 4), ("if 1 < 2\nelse 5", 2, 5), ("if 1 < 2\nelse5", 2, 4), ("if 1 < 2\nend#", 2, 3),
                ("if 1 < 2\nelse: ", 2, 4), ("if 1 < 2\nelse # no\nend", 2, 5), ("if 1 < 2\nend = 5", 2, 4),
                ("if 1 < 2\nelse if 1 < 2\nend", 2, 5), ("if 1 < 2\nelse\nelse x", 3, 0)]:
            self.bad(text, line, place)

    def test_blocks_that_are_not_closed(self):
        for text, line, place in [("repeat 5", 1, 8), ("repeat 5  ", 1, 10), ("repeat 5\n", 2, 0), ("repeat 5\n   ", 2, 3),
                                  ("if 1 < 2\nrepeat 5\nend\n  # x  ", 4, 7), ("if 1 < 2\nelse\n", 3, 0)]:
            self.bad(text, line, place)

    def test_8_and_9_blocks(self):
        for openings in [["repeat 2"] * 8, ["if 1 < 2"] * 8, ["repeat 2", "if 1 < 2"] * 4]:
            Program("\n".join(openings + ["x = 1"] + ["end"] * 8 + openings + ["end"] * 8))
            for word in ["repeat 2", "if 1 < 2", "repeat", "if(", "repeat5"]:
                self.bad("\n".join(openings + ["  " + word] + ["end"] * 9), 9, 2)
            self.bad("\n".join(openings[:7] + ["  repeats"] + ["end"] * 9), 8, 9)
        Program("if 1 < 2\nelse\n" * 8 + "end\n" * 8)

    def test_the_first_one_counts(self):
        self.bad("x = (\ny = )", 1, 5)
        self.bad("repeat 5\ny = )", 2, 4)
        self.bad("else (", 1, 0)
        self.bad("x = 5\n\n # x\n y = = 3", 4, 5)

    def test_no_strings(self):
        for value in NO_NAMES:
            if not isinstance(value, str):
                self.bad(value, 1, 0)

    def test_drawn_lines(self):
        source = model.source_of("lines of programs")
        bad = 0
        for _ in range(2500):
            lines = [self.drawn_line(source) for _ in range(source.randrange(1, 7))]
            if source.random() < 0.5:
                lines += ["end"] * sum(line.strip(" ")[:2] in ("re", "if") for line in lines)
            text = "\n".join(lines)
            try:
                found = read_program(text)
            except BadProgram as e:
                self.bad(text, e.line, e.place)
                bad += 1
            else:
                p = Program(text)
                self.assertEqual(len(p), len(lines))
                every = inside(found)
                self.assertEqual(p.assigned(), sorted({s[2] for s in every if s[0] == "assign"}))
                self.assertEqual(p.folded(), [s[1] for s in every if s[0] == "repeat" and is_folded(s[5])])
        self.assertTrue(1000 < bad < 2300, bad)

    def drawn_line(self, source):
        words = ["x", "y", "2", "17", "name"]
        text = random_text(source, source.choice([1, 1, 2, 4]), words) if source.random() < 0.3 else source.choice(words)
        other = random_text(source, source.choice([1, 1, 3]), words)
        mark = source.choice(["=", "+=", "-=", "^=", "<<=", "//=", "*=", "|="])
        line = source.choice([
            f"x {mark} {text}", f"y{mark}{text}", f"{source.choice(words)} {mark}  {text}", f"repeat {text}", f"repeat({text})",
            f"if {text} {source.choice(['==', '!=', '<', '<=', '>', '>='])} {other}", "else", "end", "# remark", "", "end"])
        if source.random() < 0.12:
            at = source.randrange(len(line) + 1)
            line = line[:at] + source.choice(["=", " ", "<", "(", ")", "z", "5", "#", "\t", "end"]) + line[at + source.randrange(2):]
        return " " * source.choice([0, 0, 1, 3]) + line + " " * source.choice([0, 0, 2])


class Runs(ProgramCase):
    def test_statements(self):
        self.runs("", {}, {}, 0)
        self.runs("# x", {"x": 5}, {"x": 5}, 0)
        self.runs("x = 5", {}, {"x": 5}, 1)
        self.runs("x = x", {"x": 5}, {"x": 5}, 1)
        self.runs("x += 2\nx *= x + 1\ny = -x", {"x": 5}, {"x": 56, "y": -56}, 3)
        self.runs("x -= 2 - 1\nx <<= 1 + 1\nx |= 1 ^ 2\nx //= 2 * 2\nx >>= 1", {"x": 5}, {"x": 2}, 5)
        self.runs("x = 2**2**70", {}, {"x": Far.power(Far.power(70))}, 1)
        for x in range(4):
            for y in range(4):
                for sign, so in [("==", x == y), ("!=", x != y), ("<", x < y), ("<=", x <= y), (">", x > y), (">=", x >= y)]:
                    self.runs(f"if x {sign} y\nz = 1\nelse\nz = 2\nz += 0\nend", {"x": x, "y": y},
                              {"x": x, "y": y, "z": 1 if so else 2}, 2 if so else 3)
                    self.runs(f"if x {sign} y\nz = 1\nend", {"x": x, "y": y, "z": 0},
                              {"x": x, "y": y, "z": 1 if so else 0}, 2 if so else 1)
        far = Far.power(2**70)
        self.runs("if x + 1 > y\nz = x\nend", {"x": far, "y": far}, {"x": far, "y": far, "z": far}, 2)

    def test_repeats_round_by_round(self):
        self.runs("repeat n\nx = x * 2 + 1\nn = 0\nend", {"n": 5, "x": 0}, {"n": 0, "x": 31}, 11)
        for count in [0, -1, -2**70, -Far.power(2**70)]:
            self.runs("repeat n\nx = y\nend", {"n": count}, {"n": count}, 1)
            self.runs("repeat n\nx += y\nrepeat m\nend\nend", {"n": count}, {"n": count}, 1)
        self.runs("repeat 3\nif x > 1\nelse\nx = x + 1\nend\nend", {"x": 0}, {"x": 2}, 1 + 3 + 2)
        self.runs("repeat 2\nrepeat 3\nx = x + 1\nend\nend", {"x": 0}, {"x": 6}, 1 + 2 + 6)

    def test_an_operator_stands_around_the_whole_right_side(self):
        self.runs("x -= 1 - 2", {"x": 0}, {"x": 1}, 1)
        self.runs("x *= 1 + 2", {"x": 5}, {"x": 15}, 1)
        self.runs("x &= 1 | 2", {"x": 6}, {"x": 2}, 1)
        self.runs("x //= 2 ** 3", {"x": 80}, {"x": 10}, 1)

    def test_10000_statements(self):
        self.runs("repeat 9999\nx = x + 1\nend", {"x": 0}, {"x": 9999}, 10000)
        for count in ["10000", "2**70", "2**2**70"]:
            self.stops(f"repeat {count}\nx = x + 1\nend", {"x": 0}, 2, TooLong, {})
        self.stops("repeat 9999\nx = x + 1\nend\n\nx = 5", {"x": 0}, 5, TooLong)
        self.stops("repeat 9999\nx = x + 1\nend\nif x == y\nend", {"x": 0}, 4, TooLong)
        self.stops("repeat 9999\nx = x + 1\nend\nrepeat y\nend", {"x": 0}, 4, TooLong)
        self.stops("x = 1\nrepeat 9998\nx = x + 1\nend\nx = y", {"x": 0}, 5, TooLong)
        self.stops("repeat 9998\nx = x + 1\nend\nx = y", {"x": 0}, 4, UnknownName)
        self.runs("repeat 4999\nif x != x\nelse\nend\nif x == x\nend\nend\nx = 3",
                  {"x": 0}, {"x": 3}, 10000)

    def test_errors(self):
        self.stops("x = 5\nx += y + z", {}, 2, UnknownName, {"name": "y"})
        self.stops("x += y", {}, 1, UnknownName, {"name": "x"})
        self.stops("y = 1\nx <<= -y", {"x": 0}, 2, NegativeShift, {"amount": -1})
        self.stops("repeat 3\nx //= 3\nend", {"x": 9}, 2, NotPower, {"value": 3})
        self.stops("if x == 1\nelse\nend\nrepeat y\nend", {"x": 0}, 4, UnknownName, {"name": "y"})
        self.stops("if x == y\nend", {"x": 0}, 1, UnknownName, {"name": "y"})
        self.stops("if z == y\nend", {"x": 0}, 1, UnknownName, {"name": "z"})
        self.stops("x = 1\nrepeat 2\nif x == 2\ny = z\nend\nx = x + 1\nend", {"x": 0}, 4, UnknownName, {"name": "z"})

    def test_numbers_that_are_assigned_are_judged(self):
        digits = str(WIDE)
        self.assertLess(len(digits), 1000)
        fields = {"parts": WIDE_SIZE, "levels": 1}
        self.stops(f"x = 3\nx = {digits}", {}, 2, TooLarge, fields)
        self.runs(f"x = {digits} & 6", {}, {"x": 2}, 1)
        self.runs(f"if {digits} == {digits}\nx = 1\nend", {}, {"x": 1}, 2)
        self.stops(f"repeat {digits}\nx = 1 + x\nend", {"x": 0}, 2, TooLong)
        self.stops(f"x = {digits} + 1", {}, 1, TooLarge)
        self.stops("x <<= 2**x\nx <<= 2**x", {"x": Far(model.tower(5))}, 1, TooLarge)

    def test_a_run_is_one_change(self):
        store = Store({"x": 1})
        program = Program("x += 1\ny = x\nx += y")
        for k in range(3):
            self.assertEqual(program(store=store), 3)
            self.assertEqual(store.undoable(), k + 1)
        self.gives(store["x"], 22)
        self.assertEqual(Program("")(store), 0)
        self.assertEqual(store.undoable(), 4)
        for _ in range(3):
            store.undo()
        self.assertEqual(store.table(), {"x": 4, "y": 2})
        store.undo()
        self.assertEqual(store.table(), {"x": 1})

    def test_kinds(self):
        p = Program("x = 1\ny = 2")
        self.assertEqual(len(p), 2)
        self.assertIs(p == Program("x = 1\ny = 2"), False)
        for values in [iter, list]:
            with self.assertRaises(TypeError):
                values(p)
        p.assigned().clear()
        self.assertEqual(p.assigned(), ["x", "y"])
        self.assertEqual(Program("repeat 2\nend").folded().clear(), None)

    def test_drawn_programs(self):
        source = model.source_of("runs of programs")
        ends = {}
        for _ in range(700):
            text = "\n".join(self.drawn_block(source, 0))
            values = {name: source.choice([0, 1, 2, 3, 5, -1, -7, 100]) for name in "xyz" if source.random() < 0.9}
            run = PlainRun(values)
            try:
                run.block(read_program(text))
            except Skipped:
                continue
            except Stop as e:
                ends[e.error] = ends.get(e.error, 0) + 1
                store = Store(values)
                with self.subTest(text=text, values=values), self.assertRaises(Stopped) as caught:
                    Program(text)(store)
                self.assertEqual(store.table(), values)
                cause = type(caught.exception.__cause__).__name__
                # Only the package has limits.
                if cause not in ["TooLarge", "TooManyTerms"]:
                    self.assertEqual((caught.exception.line, cause), (e.line, e.error))
            else:
                ends[None] = ends.get(None, 0) + 1
                with self.subTest(text=text, values=values):
                    try:
                        self.runs(text, values, run.values, run.done)
                    except FarError as e:
                        self.assertIn(type(e.__cause__).__name__, ["TooLarge", "TooManyTerms"])
        self.assertTrue(ends[None] > 200 and ends["UnknownName"] > 20, ends)

    def drawn_block(self, source, depth):
        lines = []
        for _ in range(source.randrange(1, 4)):
            kind = source.randrange(10)
            name = source.choice("xyz")
            tree = source.choice(["1", "2", "x", "y", "z", "x + 1", "y - 2", "-z", "x & y", "(y)", "3 * z", "x ^ 7"])
            if kind < 5 or depth > 3:
                mark = source.choice(["=", "+=", "-=", "+=", "^=", "&=", "|=", "<<=", ">>=", "*=", "//="])
                lines.append(f"{name} {mark} {tree}")
            elif kind < 7:
                sign = source.choice(["==", "!=", "<=", "<", ">=", ">"])
                lines += [f"if {tree} {sign} {source.choice(['1', 'x', 'y'])}", *self.drawn_block(source, depth + 1)]
                if source.random() < 0.5:
                    lines += ["else", *self.drawn_block(source, depth + 1)]
                lines.append("end")
            else:
                lines += [f"repeat {source.choice(['0', '1', '2', '3', 'x', 'y', '5'])}", *self.drawn_block(source, depth + 1), "end"]
        return lines


if __name__ == "__main__":
    unittest.main()
