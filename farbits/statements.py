"""The statements of programs: how lines are read into blocks."""

from farbits.errors import BadLine, BadText
from farbits.expressions import expression_at, token_end
from farbits.folds import is_foldable
from farbits.names import LETTERS, is_name, row_end
from farbits.trees import Assignment, Choice, Repeat

MARKS = ("=", "+=", "-=", "*=", "//=", "<<=", ">>=", "&=", "|=", "^=")
SIGNS = ("==", "!=", "<=", "<", ">=", ">")
MOST_BLOCKS = 8


def block_of(text):
    """The list of the statements of any value that is the text of a program."""
    if not isinstance(text, str):
        raise BadLine(1, 0)
    lines = text.split("\n")
    parser = Parser()
    for k in range(len(lines)):
        try:
            parser.take_line(k + 1, lines[k].rstrip(" "))
        except BadText as e:
            raise BadLine(k + 1, e.place) from e
    if parser.opened:
        raise BadLine(len(lines), len(lines[-1]))
    return parser.blocks[0]


def behind_blanks(line, place):
    """The place of the next character that is no blank, or the length of the line."""
    return row_end(line, place, " ")


class Parser:
    """Reads lines one by one.

    The statements that open blocks wait in `opened`, and what is read goes to the last
    one of `blocks`, which has one more: the whole program.
    """

    def __init__(self):
        self.opened = []
        self.blocks = [[]]

    def take_line(self, number, line):
        """Reads a line without blanks at its end."""
        start = behind_blanks(line, 0)
        if start == len(line) or line[start] == "#":
            return
        behind = row_end(line, start, LETTERS)
        word = line[start:behind]
        if word == "else":
            self.take_else(start)
            end_of_line(line, behind)
        elif word == "end":
            self.take_end(start)
            end_of_line(line, behind)
        elif word in ("repeat", "if"):
            self.take_opening(number, line, start, behind)
        elif is_name(word):
            self.blocks[-1].append(assignment_in(number, line, word, behind))
        else:
            raise BadText(start)

    def take_opening(self, number, line, start, behind):
        """Reads a line that opens a block."""
        if len(self.opened) == MOST_BLOCKS:
            raise BadText(start)
        if behind == len(line) or line[behind] not in (" ", "("):
            raise BadText(behind)
        if line[start:behind] == "if":
            opening = choice_in(number, line, behind)
        else:
            opening = Repeat(number, expression_at(line, behind, ())[0])
        self.blocks[-1].append(opening)
        self.opened.append(opening)
        self.blocks.append(opening.block)

    def take_else(self, start):
        """Goes on with what is done if a comparison is not true."""
        if not self.opened:
            raise BadText(start)
        opening = self.opened[-1]
        if not isinstance(opening, Choice) or opening.other is not None:
            raise BadText(start)
        opening.other = []
        self.blocks[-1] = opening.other

    def take_end(self, start):
        """Closes the innermost block."""
        if not self.opened:
            raise BadText(start)
        opening = self.opened.pop()
        self.blocks.pop()
        if isinstance(opening, Repeat):
            opening.is_folded = is_foldable(opening.block)


def end_of_line(line, behind):
    """Refuses what follows a word that stands alone."""
    place = behind_blanks(line, behind)
    if place < len(line):
        raise BadText(place)


def assignment_in(number, line, name, behind):
    """The assignment to a name that ends at a place of a line."""
    place = behind_blanks(line, behind)
    for mark in MARKS:
        if line[place:place + len(mark)] == mark:
            steps, _ = expression_at(line, place + len(mark), ())
            return Assignment(number, name, mark[:-1], steps)
    raise BadText(place)


def choice_in(number, line, behind):
    """The choice by the comparison that stands behind a place of a line."""
    left, place = expression_at(line, behind, SIGNS)
    if place == len(line):
        raise BadText(place)
    start = token_end(line, place)
    right, _ = expression_at(line, start, ())
    return Choice(number, left, line[place:start], right)
