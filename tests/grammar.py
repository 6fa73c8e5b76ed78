"""A second reading of expressions, by recursion over a list of tokens.

It gives trees: an int, a name, (sign, place, operand) or (sign, place, left,
right). Nothing here uses the package.
"""

import re

TOKEN = re.compile(r"[0-9]+|[a-z]+|\*\*|//|<<|>>|==|!=|<=|>=|[|^&+\-*~()<>]")
GROUPS = [["|"], ["^"], ["&"], ["<<", ">>"], ["+", "-"], ["*", "//"]]
DEEPEST = 20
WORDS = ["repeat", "if", "else", "end"]


class Bad(Exception):
    def __init__(self, place):
        super().__init__(place)
        self.place = place


def tokens(text):
    """Pairs of a token and its place; None for what is no token, "" for the end."""
    found = []
    place = 0
    while place < len(text):
        if text[place] == " ":
            place += 1
            continue
        match = TOKEN.match(text, place)
        if not match:
            return found + [(None, place)]
        found.append((match.group(), place))
        place = match.end()
    return found + [("", len(text))]


class Grammar:
    def __init__(self, text):
        self.tokens = tokens(text)
        self.at = 0

    @property
    def token(self):
        return self.tokens[self.at][0]

    @property
    def place(self):
        return self.tokens[self.at][1]

    def bad(self):
        raise Bad(self.place)

    def joined(self, group, depth):
        if group == len(GROUPS):
            return self.ahead(depth)
        left = self.joined(group + 1, depth)
        while self.token in GROUPS[group]:
            sign, place = self.tokens[self.at]
            self.at += 1
            left = (sign, place, left, self.joined(group + 1, depth))
        return left

    def ahead(self, depth):
        if self.token not in ["-", "+", "~"]:
            return self.raised(depth)
        if depth == DEEPEST:
            self.bad()
        sign, place = self.tokens[self.at]
        self.at += 1
        return (sign, place, self.ahead(depth + 1))

    def raised(self, depth):
        base = self.atom(depth)
        if self.token != "**":
            return base
        if depth == DEEPEST:
            self.bad()
        place = self.place
        self.at += 1
        return ("**", place, base, self.ahead(depth + 1))

    def atom(self, depth):
        token = self.token
        if token and token[0].isdigit() and len(token) <= 1000:
            self.at += 1
            return int(token)
        if token and token.isalpha() and len(token) <= 8 and token not in WORDS:
            self.at += 1
            return token
        if token != "(" or depth == DEEPEST:
            self.bad()
        self.at += 1
        inner = self.joined(0, depth + 1)
        if self.token != ")":
            self.bad()
        self.at += 1
        return inner


def tree(text):
    """The tree of an expression, or Bad."""
    grammar = Grammar(text)
    result = grammar.joined(0, 0)
    if grammar.token != "":
        grammar.bad()
    return result


def claim(text, signs=("==", "<=", "<", ">=", ">")):
    """(left tree, sign, right tree), or Bad."""
    grammar = Grammar(text)
    left = grammar.joined(0, 0)
    sign = grammar.token
    if sign not in signs:
        grammar.bad()
    grammar.at += 1
    right = grammar.joined(0, 0)
    if grammar.token != "":
        grammar.bad()
    return left, sign, right


class Fault(Exception):
    """An error that the package should raise, by its name."""


class Skipped(Exception):
    """A value that is too great for an int of Python."""


def value(node, values):
    """The int that a tree means, by Python's own operators."""
    if isinstance(node, int):
        return node
    if isinstance(node, str):
        if node not in values:
            raise Fault("UnknownName")
        return values[node]
    sign = node[0]
    x = value(node[2], values)
    if len(node) == 3:
        return -x if sign == "-" else ~x if sign == "~" else x
    return between(sign, x, value(node[3], values))


BETWEEN = {
    "|": lambda x, y: x | y, "^": lambda x, y: x ^ y, "&": lambda x, y: x & y,
    "<<": lambda x, y: x << y, ">>": lambda x, y: x >> y, "+": lambda x, y: x + y,
    "-": lambda x, y: x - y, "*": lambda x, y: x * y, "//": lambda x, y: x // y,
    "**": lambda x, y: x ** y,
}


def between(sign, x, y):
    if sign in ["<<", ">>"] and y < 0:
        raise Fault("NegativeShift")
    if sign == "//" and (y <= 0 or y & (y - 1)):
        raise Fault("NotPower")
    if sign == "**" and (y < 0 or (y > 64 and x != 2)):
        raise Fault("InvalidPower")
    if sign == "<<" and x and y > 500 or sign == "**" and x.bit_length() * y > 150:
        raise Skipped()
    if sign == ">>" and y > 10000:
        return -1 if x < 0 else 0
    return BETWEEN[sign](x, y)


def random_text(source, many, words, blanks=0.2):
    """A text of random tokens that is an expression now and then."""
    parts = []
    operand = True
    opened = 0
    for _ in range(many):
        if source.random() < 0.03:
            operand = not operand
        if operand:
            part = source.choice(words + words + ["(", "-", "+", "~"])
            opened += part == "("
            operand = part in "(-+~"
        elif opened and source.random() < 0.4:
            part = ")"
            opened -= 1
        else:
            part = source.choice(sum(GROUPS, ["**"]))
            operand = True
        parts.append(part)
        if source.random() < blanks:
            parts.append(" " * source.randrange(1, 3))
    if operand:
        parts.append(source.choice(words))
    if source.random() < 0.9:
        parts.append(")" * opened)
    return "".join(parts)
