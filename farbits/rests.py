"""Rests by short moduli, decimal digits, and the levels of small moduli."""

from farbits.errors import InvalidCount, InvalidLevels, NotShort
from farbits.far import far_of, int_or_form, number_form
from farbits.levels import are_levels, is_modulus, least_levels, rest_by_levels
from farbits.moduli import modulus_kind, rest_of_form
from farbits.raw import opposite
from farbits.turns import is_negative

MOST_DIGITS = 6
BASE = 10


def rest(x, m):
    """The rest of x by a short modulus m."""
    form = number_form(x)
    return far_of(rest_of_form(form, short_kind(m)))


def divides(m, x):
    """Whether a short modulus m divides x."""
    kind = short_kind(m)
    return rest_of_form(number_form(x), kind) == 0


def short_kind(m):
    """What modulus_kind tells of any value where a short modulus is expected."""
    told = modulus_kind(number_form(m))
    if told is None:
        raise NotShort(m)
    return told


def last_digits(x, n):
    """The string of the last n decimal digits of abs(x)."""
    form = number_form(x)
    if not isinstance(n, int) or isinstance(n, bool) or not 1 <= n <= MOST_DIGITS:
        raise InvalidCount(n)
    modulus = 1
    for _ in range(n):
        modulus = modulus * BASE
    magnitude = opposite(form) if is_negative(form) else form
    return str(rest_by_levels(magnitude, least_levels(modulus), 0)).zfill(n)


def periods(m):
    """The levels of m with the least periods."""
    if not is_modulus(m):
        raise NotShort(m)
    return least_levels(m)


def is_levels(m, levels):
    """Whether any values are a modulus and levels of it."""
    return is_modulus(m) and are_levels(levels) and levels[0][0] == m


def rest_by(x, levels):
    """The rest of x by the first modulus of levels."""
    value = int_or_form(x)
    if not are_levels(levels):
        raise InvalidLevels(levels)
    return far_of(rest_by_levels(value, levels, 0))
