"""Shifts, divisions by powers of two, products and powers of forms."""

from farbits.errors import InvalidPower, NegativeShift, NotPower, TooManyTerms
from farbits.limits import is_any_form, judged
from farbits.raw import place_of_power, shifted_down, shifted_up, times
from farbits.turns import is_negative, turns_in

MOST_TERMS = 600
MOST_POWER = 64


def shift_left(x, s):
    """x * 2**s"""
    if is_negative(s):
        raise NegativeShift(s)
    return judged(shifted_up(x, s))


def shift_right(x, s):
    """x divided by 2**s, rounded down"""
    if is_negative(s):
        raise NegativeShift(s)
    return judged(shifted_down(x, s))


def divide(x, y):
    """x divided by y, a power of two, rounded down"""
    place = place_of_power(y) if is_any_form(y) else None
    if place is None:
        raise NotPower(y)
    return judged(shifted_down(x, place))


def multiply(x, y):
    """x * y"""
    terms = len(turns_in(x)) * len(turns_in(y))
    if terms > MOST_TERMS and not (isinstance(x, int) and isinstance(y, int)):
        raise TooManyTerms(terms)
    return judged(times(x, y))


def power(x, n):
    """x to the power of n"""
    if not is_exponent(x, n):
        raise InvalidPower(n)
    return powered(x, n)


def is_exponent(x, n):
    """Whether power takes any value n for x."""
    if x == 2:
        return is_any_form(n) and not is_negative(n)
    return isinstance(n, int) and not isinstance(n, bool) and 0 <= n <= MOST_POWER


def powered(x, n):
    """power for an exponent that it takes."""
    if x == 2:
        return shift_left(1, n)
    result = 1
    for _ in range(n):
        result = multiply(result, x)
    return result
