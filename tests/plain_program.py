"""A second reading of programs, and runs of them with ints, round by round.

Nothing here uses the package. A statement is a tuple (kind, line, ..), with the trees
of tests/grammar.py for its expressions.
"""

from tests import grammar
from tests.grammar import Bad, Fault, Skipped

LETTERS = "abcdefghijklmnopqrstuvwxyz"
MARKS = ["=", "+=", "-=", "*=", "//=", "<<=", ">>=", "&=", "|=", "^="]
SIGNS = ["==", "!=", "<=", "<", ">=", ">"]
GROUP = {"+": 1, "-": 1, "<<": 2, "&": 3, "|": 3, "^": 3}
MOST = 10000
MOST_ROUNDS = 200


class BadProgram(Exception):
    def __init__(self, line, place):
        super().__init__(line, place)
        self.line = line
        self.place = place


def read_program(text):
    """The list of the statements of a program."""
    blocks = [[]]
    opened = []
    lines = text.split("\n")
    for number, line in enumerate(lines, 1):
        try:
            read_line(number, line.rstrip(" "), blocks, opened)
        except Bad as e:
            raise BadProgram(number, e.place) from e
    if opened:
        raise BadProgram(len(lines), len(lines[-1]))
    return blocks[0]


def behind(line, place):
    """The line with blanks in the place of what is read already."""
    return " " * place + line[place:]


def read_line(number, line, blocks, opened):
    body = line.lstrip(" ")
    if not body or body[0] == "#":
        return
    start = len(line) - len(body)
    word = body[:len(body) - len(body.lstrip(LETTERS))]
    place = start + len(word)
    if word in ["else", "end"]:
        if not opened or word == "else" and (opened[-1][0] != "if" or opened[-1][6] is not None):
            raise Bad(start)
        if line[place:].strip(" "):
            raise Bad(len(line) - len(line[place:].lstrip(" ")))
        if word == "else":
            opened[-1][6] = []
            blocks[-1] = opened[-1][6]
        else:
            opened.pop()
            blocks.pop()
    elif word in ["repeat", "if"]:
        if len(opened) == 8:
            raise Bad(start)
        if line[place:place + 1] not in [" ", "("]:
            raise Bad(place)
        if word == "if":
            left, sign, right = grammar.claim(behind(line, place), SIGNS)
            opened.append(["if", number, left, sign, right, [], None])
        else:
            opened.append(["repeat", number, grammar.tree(behind(line, place)), [], None, []])
        blocks[-1].append(opened[-1])
        blocks.append(opened[-1][5])
    elif not 1 <= len(word) <= 8:
        raise Bad(start)
    else:
        place = len(line) - len(line[place:].lstrip(" "))
        marks = [mark for mark in MARKS if line.startswith(mark, place)]
        if not marks:
            raise Bad(place)
        tree = grammar.tree(behind(line, place + len(marks[0])))
        blocks[-1].append(["assign", number, word, marks[0][:-1], tree])


def names_in(tree):
    if isinstance(tree, str):
        return {tree}
    return set().union(*[names_in(part) for part in tree[2:]]) if isinstance(tree, tuple) else set()


def inside(block):
    """All statements of a block, at any depth."""
    found = []
    for statement in block:
        found.append(statement)
        if statement[0] != "assign":
            found += inside(statement[5])
            if statement[0] == "if":
                found += inside(statement[6] or [])
    return found


def is_folded(block):
    """Whether the repeat of a block is folded, by the words of the document."""
    every = inside(block)
    if any(s[0] == "if" or s[0] == "assign" and s[3] not in GROUP for s in every):
        return False
    if any(s[0] == "repeat" and not is_folded(s[5]) for s in every):
        return False
    steps = [s for s in every if s[0] == "assign"]
    assigned = {s[2] for s in steps}
    for name in assigned:
        if len({GROUP[s[3]] for s in steps if s[2] == name}) > 1:
            return False
    inner = any(s[0] == "repeat" for s in every)
    for s in every:
        tree = s[2] if s[0] == "repeat" else s[4]
        if not names_in(tree) & assigned:
            continue
        if inner or GROUP[s[3]] != 1 or not isinstance(tree, str) or tree == s[2]:
            return False
        others = [other for other in steps if other[2] == tree]
        if any(GROUP[other[3]] != 1 or names_in(other[4]) & assigned for other in others):
            return False
    return True


class Stop(Exception):
    """An error of a run: the line and the name of the error."""

    def __init__(self, line, error):
        super().__init__(line, error)
        self.line = line
        self.error = error


class PlainRun:
    def __init__(self, values):
        self.values = dict(values)
        self.done = 0

    def value(self, line, tree):
        try:
            return grammar.value(tree, self.values)
        except Fault as e:
            raise Stop(line, str(e)) from e

    def count(self, line):
        if self.done == MOST:
            raise Stop(line, "TooLong")
        self.done += 1

    def block(self, block):
        for statement in block:
            self.count(statement[1])
            getattr(self, "do_" + ("choose" if statement[0] == "if" else statement[0]))(statement)

    def do_assign(self, statement):
        _, line, name, sign, tree = statement
        if not sign:
            self.values[name] = self.value(line, tree)
            self.skip_great(name)
            return
        x = self.value(line, name)
        y = self.value(line, tree)
        try:
            self.values[name] = grammar.between(sign, x, y)
        except Fault as e:
            raise Stop(line, str(e)) from e
        self.skip_great(name)

    def skip_great(self, name):
        if self.values[name].bit_length() > 600:
            raise Skipped()

    def do_choose(self, statement):
        _, line, left, sign, right, block, other = statement
        x, y = self.value(line, left), self.value(line, right)
        if {"==": x == y, "!=": x != y, "<": x < y, "<=": x <= y, ">": x > y, ">=": x >= y}[sign]:
            self.block(block)
        else:
            self.block(other or [])

    def do_repeat(self, statement):
        _, line, tree, _, _, block = statement
        count = self.value(line, tree)
        if not is_folded(block):
            for _ in range(min(count, MOST + 1)):
                self.block(block)
        elif count > 0:
            if count > MOST_ROUNDS:
                raise Skipped()
            before = dict(self.values)
            self.first_round(block)
            self.values = before
            for _ in range(count):
                self.round(block)

    def first_round(self, block):
        """One round, in which each inner block is done once if its count is above 0."""
        for statement in block:
            self.count(statement[1])
            if statement[0] == "assign":
                self.do_assign(statement)
            elif self.value(statement[1], statement[2]) > 0:
                self.first_round(statement[5])

    def round(self, block):
        """One round, without counting."""
        for statement in block:
            if statement[0] == "assign":
                self.do_assign(statement)
            else:
                count = self.value(statement[1], statement[2])
                if count > MOST_ROUNDS:
                    raise Skipped()
                for _ in range(count):
                    self.round(statement[5])
