"""Linear expressions over the bits of names.

The bits of the names at one place make a row: an int with the bit of the first
name lowest. An integer that has ones at exactly the places of a row, for each of
the rows, is a summand of each linear expression: it is a sum over the rows, each
with a weight. All of these integers together are -1, so the number n is the sum
with the weight -n for each row.

A part of an expression is a tuple (kind, worth): an integer part and its int; a
bit term and an int with ones for its rows, whose bits above all rows mean nothing; a
sum and the list of the weights of all rows.
"""

from farbits.errors import NotLinear
from farbits.expressions import AHEAD, NAME, NUMBER

WHOLE = "whole"
BITS = "bits"
SUM = "sum"
MOST_SHIFT = 64


def weights_of(steps, names):
    """The list of the weights of all rows for the steps of a linear expression."""
    many = 1 << len(names)
    terms = {names[k]: rows_with(k, many) for k in range(len(names))}
    parts = []
    for kind, what, place in steps:
        if kind == NUMBER:
            parts.append((WHOLE, what))
        elif kind == NAME:
            parts.append((BITS, terms[what]))
        elif kind == AHEAD:
            parts.append(part_ahead(what, parts.pop(), many))
        else:
            right = parts.pop()
            left = parts.pop()
            part = part_between(what, left, right, many)
            if part is None:
                raise NotLinear(place)
            parts.append(part)
    return weights_in(parts[0], many)


def rows_with(name, many):
    """The rows in which the bit of a name is 1, as an int with a one for each."""
    rows = 0
    for row in range(many):
        if (row >> name) & 1:
            rows = rows | (1 << row)
    return rows


def weights_in(part, many):
    """The weights of all rows for a part."""
    kind, worth = part
    if kind == WHOLE:
        return [-worth for _ in range(many)]
    if kind == BITS:
        return [(worth >> row) & 1 for row in range(many)]
    return worth


def part_ahead(sign, part, many):
    """What an operator ahead of a part makes of it."""
    kind, worth = part
    if kind == WHOLE or (kind == BITS and sign == "~"):
        return (kind, int_ahead(sign, worth))
    weights = weights_in(part, many)
    if sign == "-":
        return (SUM, [-weight for weight in weights])
    if sign == "~":
        # ~x is -x - 1, and -1 is the sum with all weights 1.
        return (SUM, [1 - weight for weight in weights])
    return (SUM, weights)


def int_ahead(sign, value):
    """What an operator ahead of an int makes of it."""
    if sign == "-":
        return -value
    return ~value if sign == "~" else value


def part_between(sign, left, right, many):
    """What an operator makes of the parts on both sides, None if that is not linear."""
    if sign in ("&", "|", "^"):
        return joined(sign, left, right)
    if sign == "<<":
        return shifted(left, right, many)
    if sign == "*":
        return multiplied(left, right, many)
    if sign in ("+", "-"):
        return summed(sign, left, right, many)
    return None


def joined(sign, left, right):
    """The part that a bit operator makes, or None."""
    if left[0] == WHOLE and right[0] == WHOLE:
        return (WHOLE, with_bits(sign, left[1], right[1]))
    if not is_side(left) or not is_side(right):
        return None
    return (BITS, with_bits(sign, left[1], right[1]))


def is_side(part):
    """Whether a part can stand beside a bit term: its int has ones for its rows."""
    kind, worth = part
    return kind == BITS or (kind == WHOLE and worth in (0, -1))


def with_bits(sign, x, y):
    """A bit operator over two ints."""
    if sign == "&":
        return x & y
    return x | y if sign == "|" else x ^ y


def shifted(left, right, many):
    """The part that a shift makes, or None."""
    if right[0] != WHOLE or not 0 <= right[1] <= MOST_SHIFT:
        return None
    return scaled(left, 1 << right[1], many)


def multiplied(left, right, many):
    """The part that a product makes, or None."""
    if right[0] == WHOLE:
        return scaled(left, right[1], many)
    if left[0] == WHOLE:
        return scaled(right, left[1], many)
    return None


def scaled(part, factor, many):
    """A part times an int."""
    kind, worth = part
    if kind == WHOLE:
        return (WHOLE, worth * factor)
    return (SUM, [weight * factor for weight in weights_in(part, many)])


def summed(sign, left, right, many):
    """The part that a sum or a difference makes."""
    factor = -1 if sign == "-" else 1
    if left[0] == WHOLE and right[0] == WHOLE:
        return (WHOLE, left[1] + factor * right[1])
    first = weights_in(left, many)
    second = weights_in(right, many)
    return (SUM, [first[row] + factor * second[row] for row in range(many)])
