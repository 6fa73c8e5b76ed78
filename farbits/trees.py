"""What a program is made of: statements, each of which knows the number of its line.

Expressions are lists of steps, and blocks are lists of statements.
"""


class Assignment:
    """NAME = E, or NAME OP= E; the operator is empty for the first kind."""

    def __init__(self, line, name, operator, steps):
        self.line = line
        self.name = name
        self.operator = operator
        self.steps = steps


class Choice:
    """A block that is done if a comparison is true, and another one, or None."""

    def __init__(self, line, left, comparison, right):
        self.line = line
        self.left = left
        self.comparison = comparison
        self.right = right
        self.block = []
        self.other = None


class Repeat:
    """A block that is done so many times as the steps give."""

    def __init__(self, line, steps):
        self.line = line
        self.steps = steps
        self.block = []
        self.is_folded = False


def statements_within(block):
    """The list of the statements of a block at any depth, in the order of their lines."""
    found = []
    for statement in block:
        found.append(statement)
        if isinstance(statement, Repeat):
            found.extend(statements_within(statement.block))
        elif isinstance(statement, Choice):
            found.extend(statements_within(statement.block))
            if statement.other is not None:
                found.extend(statements_within(statement.other))
    return found
