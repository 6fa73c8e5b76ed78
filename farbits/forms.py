"""Forms of integers: what they are, their order and bits, and their sums."""

from farbits.errors import InvalidTurns, NoPlace
from farbits.limits import MOST_LEVELS, MOST_PARTS, judged, levels_in, parts_in
from farbits.limits import sound_parts
from farbits.raw import bit_at, both, differ, either, flip, minus, opposite
from farbits.raw import plus, plus_one
from farbits.turns import compare, form_with, is_negative, turns_in


def is_form(value):
    """Whether any value is the form of an integer that is not too large."""
    return sound_parts(value, MOST_PARTS, MOST_LEVELS) > 0


def size_of(x):
    """The size of a form, an int."""
    return parts_in(x)


def height_of(x):
    """The height of a form, an int."""
    return levels_in(x)


def turns_of(x):
    """The tuple of the forms of the turns of x, ascending."""
    return tuple([judged(turn) for turn in turns_in(x)])


def form_of(turns):
    """The form of the integer with these turns."""
    before = -1
    for index, turn in enumerate(turns):
        if compare(before, turn) >= 0:
            raise InvalidTurns(index)
        before = turn
    return judged(form_with(turns))


def order_of(x, y):
    """-1, 0 or 1, as x is less than, equal to or greater than y."""
    return compare(x, y)


def bit_of(x, p):
    """The bit of x at place p, 0 or 1."""
    if is_negative(p):
        raise NoPlace(p)
    return bit_at(x, p)


def successor(x):
    """x + 1"""
    return judged(plus_one(x))


def negate(x):
    """-x"""
    return judged(opposite(x))


def add(x, y):
    """x + y"""
    return judged(plus(x, y))


def subtract(x, y):
    """x - y"""
    return judged(minus(x, y))


def bit_not(x):
    """~x"""
    return judged(flip(x))


def bit_and(x, y):
    """x & y"""
    return judged(both(x, y))


def bit_or(x, y):
    """x | y"""
    return judged(either(x, y))


def bit_xor(x, y):
    """x ^ y"""
    return judged(differ(x, y))
