"""What the steps of an expression give, with forms in the place of its names."""

from farbits.errors import UnknownName
from farbits.expressions import AHEAD, NAME, NUMBER
from farbits.forms import add, bit_and, bit_not, bit_or, bit_xor, negate, subtract
from farbits.limits import judged
from farbits.products import divide, multiply, power, shift_left, shift_right
from farbits.turns import form_of_int


def evaluated(steps, values):
    """The form that steps give; it is judged only if an operator gave it."""
    results = []
    for kind, what, _ in steps:
        if kind == NUMBER:
            results.append(form_of_int(what))
        elif kind == NAME:
            if what not in values:
                raise UnknownName(what)
            results.append(values[what])
        elif kind == AHEAD:
            results.append(applied_ahead(what, results.pop()))
        else:
            right = results.pop()
            left = results.pop()
            results.append(applied_between(what, left, right))
    return results[0]


def applied_ahead(sign, x):
    """What an operator ahead of one operand gives."""
    if sign == "-":
        return negate(x)
    if sign == "~":
        return bit_not(x)
    return judged(x)


def applied_between(sign, x, y):
    """What an operator between two operands gives."""
    if sign == "+":
        return add(x, y)
    if sign == "-":
        return subtract(x, y)
    if sign == "*":
        return multiply(x, y)
    if sign == "//":
        return divide(x, y)
    if sign == "**":
        return power(x, y)
    return applied_to_bits(sign, x, y)


def applied_to_bits(sign, x, y):
    """What a shift or a bit operator gives."""
    if sign == "<<":
        return shift_left(x, y)
    if sign == ">>":
        return shift_right(x, y)
    if sign == "&":
        return bit_and(x, y)
    if sign == "|":
        return bit_or(x, y)
    return bit_xor(x, y)
