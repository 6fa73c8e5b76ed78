"""[61], [62]: folded repeats."""

import unittest

from farbits.errors import NegativeShift, NotPower, Stopped, TooLarge, TooLong, TooManyTerms, UnknownName
from farbits.far import Far
from farbits.programs import Program
from farbits.stores import Store
from tests import model
from tests.cases import WIDE, WIDE_SIZE
from tests.grammar import Skipped
from tests.plain_program import PlainRun, Stop, inside, is_folded, read_program
from tests.test_programs import ProgramCase

FAR_COUNTS = [2**64, 2**70 + 1, 2**70 - 1, Far.power(2**70), Far.power(2**70) - 1, Far.power(Far.power(2**70) + 3) + 9,
              3 * Far.power(2**66) + 5]


def drawn_steps(source, group, constants, sums):
    """Lines of steps, each name with its own group of operators."""
    name = source.choice(list(group))
    tree = source.choice(constants)
    if group[name] == "sums" and sums and source.random() < 0.4:
        tree = source.choice(["w", "(v)", "((w))", "v"])
        name = source.choice(["x", "y"]) if group.get("x") == group.get("y") == "sums" else name
    return f"{name} {source.choice(SIGNS[group[name]])} {tree}"


SIGNS = {"sums": ["+=", "-="], "shifts": ["<<="], "bits": ["&=", "|=", "^="]}


class Folding(ProgramCase):
    def folds(self, text, lines):
        self.assertEqual(Program(text).folded(), lines)
        every = inside(read_program(text))
        self.assertEqual([s[1] for s in every if s[0] == "repeat" and is_folded(s[5])], lines)

    def test_what_is_folded(self):
        for block in ["", "# remark\n\n", "x += 1", "x -= 1\nx += y", "x <<= y", "x &= 5\nx |= y\nx ^= z * z", "x += y\ny += 2",
                      "y += 2\nx += y", "x += (y)\ny -= z", "x -= ((y))\ny += z * z",
                      "x += y\nx -= y\nx += 1\ny += 1", "x += 1\ny <<= 2\nz ^= 3", "x += y\nz -= y\ny += 1", "x += w",
                      "x <<= y\nz &= w"]:
            self.folds(f"repeat 5\n{block}\nend", [1])
        for block in ["x = 1", "x *= 2", "x //= 2", "x >>= 1", "x += x", "x += -x", "x += y + 1\ny += 1", "x += +y\ny += 1", "x += y\ny += x",
                      "x += y\ny += z\nz += 1", "x += 1\nx <<= 1", "x += 1\nx ^= 1", "x <<= 1\nx &= 1", "x <<= y\ny += 1", "x ^= y\ny += 1",
                      "x += y\ny ^= 1", "x += y\ny <<= 1", "x += 1\nif x < 5\nend", "if x < 5\nend", "x += y\nx = y", "x ^= y\ny ^= z",
                      "x <<= x", "x |= x", "x += (y - 0)\ny += 1", "x += 2 * y\ny += 1", "x += y\ny += y", "y += y\nx += 1"]:
            self.folds(f"repeat 5\n{block}\nend", [])

    def test_blocks_within_blocks(self):
        self.folds("repeat 5\nrepeat n\nend\nend", [1, 2])
        self.folds("repeat 5\nx += 1\nrepeat n\nx -= m\ny <<= m\nrepeat m\nx += n\nend\nend\nend", [1, 3, 6])
        self.folds("repeat 5\nrepeat n\nx += y\ny += 1\nend\nend", [2])
        self.folds("repeat 5\nx += y\ny += 1\nrepeat n\nend\nend", [4])
        self.folds("repeat 5\nrepeat x\nend\nx += 1\nend", [2])
        self.folds("repeat 5\nrepeat x\nx += 1\nend\nend", [2])
        self.folds("repeat x\nx += 1\nend", [1])
        self.folds("repeat 5\nx += 1\nrepeat n\nx <<= 1\nend\nend", [3])
        self.folds("repeat 5\nx += 1\nrepeat n\ny += x\nend\nend", [3])
        self.folds("repeat 5\nx += y\nrepeat n\ny += 1\nend\nend", [3])
        self.folds("repeat 5\nrepeat n\nx = 1\nend\nend", [])
        self.folds("repeat 5\nif 1 < 2\nrepeat 6\nend\nelse\nrepeat 7\nx += 1\nend\nend\nend", [3, 6])
        self.folds("if 1 < 2\nrepeat 5\nend\nend\nrepeat 5\nrepeat 6\nx ^= 1\nend\nx &= 7\nend", [2, 5, 6])

    def test_against_rounds(self):
        source = model.source_of("folded repeats")
        ends = {}
        for k in range(1500):
            text, many = self.drawn_fold(source)
            values = {name: source.choice([0, 1, 2, 3, 5, -1, -6, 77]) for name in "xyzwvmn" if source.random() < 0.97}
            run = PlainRun(values)
            try:
                run.block(read_program(text))
            except Skipped:
                continue
            except Stop as e:
                ends[e.error] = ends.get(e.error, 0) + 1
                with self.subTest(text=text, values=values):
                    store = Store(values)
                    with self.assertRaises(Stopped) as caught:
                        Program(text)(store)
                    self.assertEqual((caught.exception.line, type(caught.exception.__cause__).__name__), (e.line, e.error))
                    self.assertEqual(store.table(), values)
            else:
                ends[None] = ends.get(None, 0) + 1
                with self.subTest(text=text, values=values):
                    self.runs(text, values, run.values, run.done)
        self.assertTrue(ends[None] > 600 and ends["UnknownName"] > 30 and ends["NegativeShift"] > 10, ends)

    def drawn_fold(self, source):
        """A program with a folded repeat, most often, and how many lines it has."""
        count = source.choice(["0", "1", "2", "3", "5", "m", "n - 1", "-1"])
        if source.random() < 0.5:
            group = {"x": source.choice(["sums", "sums", "shifts", "bits"]), "y": "sums", "w": "sums", "v": "sums"}
            constants = ["1", "m", "n", "m - 3", "2 * n"]
            lines = [drawn_steps(source, group, constants, True) for _ in range(source.randrange(6))]
        else:
            group = {name: source.choice(["sums", "shifts", "bits", "bits"]) for name in "xyz"}
            constants = ["1", "m", "n", "m & 6", "n + 1", "w"]
            lines = self.drawn_inner(source, group, constants, 0)
        return "\n".join([f"repeat {count}", *lines, "end"]), len(lines)

    def drawn_inner(self, source, group, constants, depth):
        lines = []
        for _ in range(source.randrange(5)):
            if depth < 3 and source.random() < 0.3:
                count = source.choice(["0", "1", "2", "3", "m", "w", "-2"])
                lines += [f"repeat {count}", *self.drawn_inner(source, group, constants, depth + 1), "end"]
            else:
                lines.append(drawn_steps(source, group, constants, False))
        return lines


class FarCounts(ProgramCase):
    def made(self, text, values, **more):
        store = Store({**values, **more})
        Program(text)(store)
        return store.table()

    def test_examples(self):
        for n in [1, 5, 2**64, *FAR_COUNTS]:
            n = Far(n)
            table = self.made("repeat n\nx += y\ny += 2\nend", {"x": 0, "y": 1, "n": n})
            self.gives(table["x"], n * n)
            self.gives(table["y"], 1 + 2 * n)
        self.runs("repeat 2**70 + 1\nx ^= 5\nend", {"x": 3}, {"x": 6}, 2)
        self.runs("repeat 2**70\nx ^= 5\nend", {"x": 3}, {"x": 3}, 2)

    def test_sums(self):
        for n in FAR_COUNTS:
            n = Far(n)
            values = {"x": 7, "y": -3, "n": n}
            table = self.made("repeat n\nx -= y\nend", values)
            self.gives(table["x"], 7 + 3 * n)
            table = self.made("repeat n\ny += 5\nx -= y\ny -= 1\nend", values)
            # In round r the sum is y + 4 * r + 5.
            self.gives(table["x"], 7 - 2 * n - 2 * n * (n - 1))
            self.gives(table["y"], -3 + 4 * n)
            table = self.made("repeat n\nx += y\nrepeat 3\nx -= 1\nrepeat n\nx += 2\nend\nend\nend", values)
            self.gives(table["x"], 7 - 3 * n - 3 * n + 6 * n * n)

    def test_shifts(self):
        n = Far.power(2**70) + 3
        self.gives(self.made("repeat n\nx <<= 2\nrepeat 3\nx <<= y\nend\nend", {"x": 5, "y": 7, "n": n})["x"], Far(5) << (23 * n))
        self.gives(self.made("repeat n\nx <<= y\nend", {"x": 0, "y": 7, "n": n})["x"], 0)

    def test_bits(self):
        far = Far.power(2**70)
        values = {"x": far + 0b1010, "y": 0b0110, "z": far, "n": Far.power(2**71) + 1}
        self.gives(self.made("repeat n\nx ^= y\nx ^= z\nend", values)["x"], 0b1100)
        self.gives(self.made("repeat n + 1\nx ^= y\nx ^= z\nend", values)["x"], far + 0b1010)
        self.gives(self.made("repeat n\nx |= y\nx &= z + 3\nx ^= 1\nend", values)["x"], far + 0b11)
        self.gives(self.made("repeat n + 1\nx |= y\nx &= z + 3\nx ^= 1\nend", values)["x"], far + 0b10)
        self.gives(self.made("repeat n\nrepeat n + 1\nx ^= 1\nend\nrepeat n\nx ^= 4\nend\nend", values)["x"], far + 0b1110)
        self.gives(self.made("repeat n\nx &= -1 - y\nend", values)["x"], far + 0b1000)

    def test_rounds_add_up(self):
        source = model.source_of("far folds")
        blocks = ["x += y\ny += 2\nx -= w\nw -= z", "x += z\nrepeat 5\nx -= 3\nrepeat m\ny += z\nend\nend",
                  "x &= z | 9\nx ^= 21\ny |= 5\ny ^= 4", "w <<= m\nx ^= z\nrepeat m\ny ^= z\ny |= 8\nx &= -9\nend"]
        for block in blocks:
            for _ in range(6):
                first, second = source.choice(FAR_COUNTS + [1, 2, 3]), source.choice(FAR_COUNTS)
                values = {"x": source.randrange(-99, 99), "y": 2**70 + source.randrange(99), "z": 2**65 - 3, "w": -1, "m": 6}
                once = self.made(f"repeat n\n{block}\nend", values, n=first)
                twice = self.made(f"repeat n\n{block}\nend", {**once, "n": second})
                whole = self.made(f"repeat n\n{block}\nend", values, n=Far(first) + second)
                self.assertEqual({**twice, "n": 0}, {**whole, "n": 0})

    def test_statements(self):
        n = Far.power(2**70)
        self.runs("repeat n\nend", {"n": n}, {"n": n}, 1)
        self.runs("repeat n\nrepeat n\nrepeat n\nend\nend\nend", {"n": n}, {"n": n}, 3)
        self.runs("repeat n\nx += 1\nrepeat 0\nx += y\nrepeat z\nend\nend\nrepeat -n\nx -= u\nend\nend", {"n": n, "x": 0}, {"n": n, "x": n}, 4)
        for count in [0, -1, -n]:
            self.runs("repeat n\nx += y\nrepeat z\nend\nend", {"n": count}, {"n": count}, 1)
        # Within another repeat, each folded one is folded again.
        self.runs("repeat 3\ny = y * 2\nrepeat n\nx += y\nend\nend", {"n": n, "x": 0, "y": 1}, {"n": n, "x": 14 * n, "y": 8}, 1 + 3 * 3)


class Errors(ProgramCase):
    def test_errors_of_the_first_round(self):
        n = Far.power(2**70)
        values = {"n": n, "x": 1, "y": 2}
        self.stops("repeat n\nx += 1\nz += 1\nend", values, 3, UnknownName, {"name": "z"})
        self.stops("repeat n\nx += 1\ny += z\nend", values, 3, UnknownName, {"name": "z"})
        self.stops("repeat n\nz += u\nend", values, 2, UnknownName, {"name": "z"})
        self.stops("repeat n\nx += z\nz += 1\nend", values, 2, UnknownName, {"name": "z"})
        self.stops("repeat n\nrepeat n\nrepeat u\nend\nend\nend", values, 3, UnknownName, {"name": "u"})
        self.stops("repeat n\nx <<= 1 - y\nend", values, 2, NegativeShift, {"amount": -1})
        self.stops("repeat 1\nx <<= 0 - n\nend", values, 2, NegativeShift, {"amount": (-n).form})
        self.stops("repeat n\nx += 1 // 3\nend", values, 2, NotPower, {"value": 3})
        self.stops("repeat n\nrepeat 0\nz += u\nend\nx += u\nend", values, 5, UnknownName, {"name": "u"})
        self.stops("repeat u\nx += u\nend", values, 1, UnknownName, {"name": "u"})
        high = {"x": Far(model.tower(5)), "y": 0}
        self.stops("repeat 5\ny += 2**2**x\nend", high, 2, TooLarge)

    def test_too_large_at_the_end(self):
        n = Far(model.tower(4))
        values = {"n": n, "x": 0, "y": 0, "z": 1}
        # 2**(2**n) is not too high, and 2**(2**(2**n)) is.
        self.stops("repeat 3\ny += 1\nz <<= 2**2**n\nx += 2\nend", values, 3, TooLarge)
        self.runs("repeat 3\nz += 2**2**n\nz -= 2**2**n\nend", values, values, 3)
        half = int("10" * 550, 2)
        one, two = half << 1200, half << 2400
        store = {"a": one, "b": two, "x": 0, "y": 0, "n": n}
        # A number that is too large only in between is none.
        self.runs("repeat 1\nx += a\nx += b\nx -= a\nend", store, {**store, "x": two}, 4)
        self.runs("repeat 2\nx ^= a\nx ^= b\nend", store, store, 3)
        wide = {"parts": 2 * 2 * 550 + 1, "levels": 1}
        self.stops("repeat 1\nx += a\nx += b\nend", store, 2, TooLarge, wide)
        self.stops("repeat 1\ny += 1\nrepeat 1\nx ^= a\nend\nx ^= b\nend", store, 4, TooLarge, wide)
        self.stops("repeat 1\ny += a\nx += b\nx += a\ny += b\nend", store, 2, TooLarge, wide)
        self.stops("repeat 1\nrepeat 0\ny += a\nend\nx += b\nx += a\ny += b\ny += a\nend", store, 5, TooLarge, wide)
        # Errors of lines go first, also those of later ones.
        self.stops("repeat 1\nx += a\nx += b\ny += u\nend", store, 4, UnknownName)
        self.stops("repeat 1\nrepeat 1\nx += a\nx += b\nend\ny += a + b\nend", store, 6, TooLarge, wide)
        # A literal is not judged before it is held.
        self.runs(f"repeat 2\nx += {WIDE}\nx -= {WIDE}\nend", store, store, 3)
        self.stops(f"repeat 2\nx += {WIDE}\nend", store, 2, TooLarge, {"parts": WIDE_SIZE, "levels": 1})

    def test_counts_of_40_and_41_turns(self):
        forty, more = tuple(range(70, 110)), tuple(range(70, 111))
        negative = Far(more)
        self.assertEqual(len(forty), 40)
        values = {"n": Far(forty), "m": Far(tuple(range(70, 112))), "x": 0}
        self.assertTrue(negative < 0 < values["n"])
        self.runs("repeat n\nx += 3\nend", values, {**values, "x": 3 * values["n"]}, 2)
        self.stops("repeat m\nx += u\nend", values, 1, TooManyTerms, {"terms": 42})
        self.stops("repeat 5\nx += 1\nrepeat m\nx += u\nend\nend", values, 3, TooManyTerms, {"terms": 42})
        self.stops("repeat 5\nx += u\nrepeat m\nend\nend", values, 2, UnknownName)
        self.runs("repeat 0\nrepeat m\nend\nend", values, values, 1)
        self.runs("repeat n\nend", values, values, 1)
        self.stops("repeat m\nend", values, 1, TooManyTerms, {"terms": 42})
        self.runs("repeat k\nx += u\nend", {"k": negative}, {"k": negative}, 1)
        plain = int("01" * 32, 2)
        self.runs("repeat k\nx += 1\nend", {"k": plain, "x": 0}, {"k": plain, "x": plain}, 2)
        # Round by round the count has no limit of its own.
        self.stops("repeat m\nx = x + 1\nend", values, 2, TooLong)

    def test_too_long(self):
        lines = "\n".join(["x += 1"] * 9998)
        n = 2**70
        self.runs(f"repeat n\n{lines}\nend", {"n": n, "x": 0}, {"n": n, "x": 9998 * n}, 9999)
        self.runs(f"repeat n\n{lines}\nrepeat 0\nend\nend", {"n": n, "x": 0}, {"n": n, "x": 9998 * n}, 10000)
        self.stops(f"repeat n\n{lines}\nrepeat 1\nx += u\nend\nend", {"n": n, "x": 0}, 10001, TooLong)
        self.stops(f"repeat n\n{lines}\nx += 1\nx += u\nend", {"n": n, "x": 0}, 10001, TooLong)
        self.runs("repeat 3332\nx = x\nrepeat n\nx += 1\nend\nend", {"n": n, "x": 0}, {"n": n, "x": 3332 * n}, 9997)


if __name__ == "__main__":
    unittest.main()
