"""Expressions: how a text is read into steps.

A step is a tuple (kind, what, place): an int or a name that is written, or an
operator, at a place of the text. The steps stand in the order of evaluation:
those of the left side, those of the right side, the operator.
"""

from farbits.errors import BadText
from farbits.names import LETTERS, is_name, row_end

NUMBER = "number"
NAME = "name"
AHEAD = "ahead"
BETWEEN = "between"

DIGITS = "0123456789"
MOST_DIGITS = 1000
MOST_LEVELS_OPEN = 20

# The signs of comparisons are tokens of every text. Where none may stand it is
# refused at its first character, as a character that begins no token is.
LONG_SIGNS = ("**", "//", "<<", ">>", "==", "!=", "<=", ">=")
SHORT_SIGNS = "|^&+-*~()<>"

# How tight the operators between two operands bind, and what else has a right side.
STRENGTHS = {
    "|": 1, "^": 2, "&": 3, "<<": 4, ">>": 4, "+": 5, "-": 5, "*": 6, "//": 6, "**": 8,
}
SIGNS_AHEAD = ("-", "+", "~")
STRENGTH_OF_PARENTHESIS = 0
LEAST_STRENGTH = 1
STRENGTH_AHEAD = 7
STRENGTH_OF_POWER = 8
STRENGTHS_OF_LEVELS = (0, 7, 8)


def steps_of(text):
    """The steps of any value that is the text of an expression."""
    if not isinstance(text, str):
        raise BadText(0)
    steps, _ = expression_at(text, 0, ())
    return steps


def expression_at(text, start, signs):
    """(steps, place): an expression that begins at start and is read up to a place.

    It ends with the text, or at one of the signs outside of all parentheses.
    """
    reader = Reader(text, start)
    reader.take_operand()
    while reader.take_operator(signs):
        reader.take_operand()
    return reader.steps, reader.place


def token_end(text, place):
    """Where the token ends that begins at a place."""
    first = text[place]
    if first in DIGITS:
        return row_end(text, place, DIGITS)
    if first in LETTERS:
        return row_end(text, place, LETTERS)
    if text[place:place + 2] in LONG_SIGNS:
        return place + 2
    if first in SHORT_SIGNS:
        return place + 1
    raise BadText(place)


class Reader:
    """Reads an expression from left to right.

    What waits for its end stands in `pending` as (strength, step): operators for
    that of their right side, and opening parentheses, without a step.
    """

    def __init__(self, text, place):
        self.text = text
        self.place = place
        self.steps = []
        self.pending = []
        self.levels = 0
        self.opened = 0

    def peek(self):
        """The next token, empty at the end of the text."""
        while self.place < len(self.text) and self.text[self.place] == " ":
            self.place += 1
        if self.place == len(self.text):
            return ""
        return self.text[self.place:token_end(self.text, self.place)]

    def skip(self, token):
        """Goes behind a token."""
        self.place = self.place + len(token)

    def take_operand(self):
        """Reads a number or a name, and what stands ahead of it."""
        token = self.peek()
        while token == "(" or token in SIGNS_AHEAD:
            if token == "(":
                self.open_level(STRENGTH_OF_PARENTHESIS, None)
                self.opened += 1
            else:
                self.open_level(STRENGTH_AHEAD, (AHEAD, token, self.place))
            self.skip(token)
            token = self.peek()
        if is_name(token):
            self.steps.append((NAME, token, self.place))
        elif token and token[0] in DIGITS and len(token) <= MOST_DIGITS:
            self.steps.append((NUMBER, int(token), self.place))
        else:
            raise BadText(self.place)
        self.skip(token)

    def take_operator(self, signs):
        """Reads up to an operator between two operands; whether there is one."""
        token = self.peek()
        while token == ")" and self.opened > 0:
            self.close_parenthesis()
            self.skip(token)
            token = self.peek()
        if self.opened == 0 and (token == "" or token in signs):
            self.settle(LEAST_STRENGTH)
            return False
        if token not in STRENGTHS:
            raise BadText(self.place)
        self.begin_right_side(STRENGTHS[token], (BETWEEN, token, self.place))
        self.skip(token)
        return True

    def begin_right_side(self, strength, step):
        """Lets an operator between two operands wait for its right one."""
        if strength == STRENGTH_OF_POWER:
            # What waits is looser, or a power whose right side this one is part of.
            self.open_level(strength, step)
        else:
            self.settle(strength)
            self.pending.append((strength, step))

    def open_level(self, strength, step):
        """Begins a level: what stands within a token."""
        if self.levels == MOST_LEVELS_OPEN:
            raise BadText(self.place)
        self.levels += 1
        self.pending.append((strength, step))

    def settle(self, strength):
        """Ends the right sides of all pending operators of at least a strength."""
        while self.pending and self.pending[-1][0] >= strength:
            self.steps.append(self.close_last())

    def close_last(self):
        """Ends what waits last, and returns its step."""
        strength, step = self.pending.pop()
        if strength in STRENGTHS_OF_LEVELS:
            self.levels -= 1
        return step

    def close_parenthesis(self):
        """Ends the innermost parenthesis and all that stands in it."""
        self.settle(LEAST_STRENGTH)
        self.close_last()
        self.opened -= 1
