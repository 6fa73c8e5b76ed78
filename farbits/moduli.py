"""Rests of forms by short moduli."""

from farbits.levels import is_modulus, least_levels, rest_by_levels
from farbits.raw import bit_at, both, minus, opposite, place_of_power, plus, plus_one
from farbits.raw import shifted_down, shifted_up, total
from farbits.turns import form_with, turns_in

SMALL = "small"
POWER = "power"
BELOW = "below"
ABOVE = "above"


def modulus_kind(m):
    """(kind, number) of a form that is a short modulus, None for any other.

    The number is m itself for a small one, p for 2**p, and n for 2**n - 1 and
    2**n + 1 that lie below and above a power of two whose n is one, too.
    """
    if is_modulus(m):
        return (SMALL, m)
    place = place_of_power(m)
    if place is not None:
        return (POWER, place)
    place = place_of_double_power(plus_one(m))
    if place is not None:
        return (BELOW, place)
    place = place_of_double_power(minus(m, 1))
    if place is not None:
        return (ABOVE, place)
    return None


def place_of_double_power(x):
    """The n for which x is 2**n and n a power of two, or None."""
    place = place_of_power(x)
    if place is None or place_of_power(place) is None:
        return None
    return place


def rest_of_form(x, told):
    """The rest of a form by the modulus that modulus_kind has told, as a form."""
    kind, number = told
    if kind == SMALL:
        return x % number if isinstance(x, int) else rest_by_levels(x, least_levels(number), 0)
    if kind == POWER:
        return under(x, number)
    if kind == BELOW:
        rest = folded_below(reduced_turns(x, number, False), number)
        return 0 if rest == form_with([0, number]) else rest
    return folded_above(reduced_turns(x, number, True), number)


def under(x, place):
    """What x is below a place from 1 on."""
    return both(x, form_with([0, place]))


def reduced_turns(x, n, turning):
    """A number with the rest of x in which all turns are less than n, a power of two.

    2**n counts as 1, or as -1 if turning is True.
    """
    within = minus(n, 1)
    place = place_of_power(n)
    powers = []
    turns = turns_in(x)
    for k in range(len(turns)):
        power = shifted_up(1, both(turns[k], within))
        turned = turning and bit_at(turns[k], place) == 1
        powers.append(power if (k & 1 == 1) != turned else opposite(power))
    return total(powers)


def folded_below(x, n):
    """A number from 0 to 2**n - 1 that differs from x by a multiple of 2**n - 1."""
    left = x
    behind = shifted_down(left, n)
    while behind != 0:
        left = plus(under(left, n), behind)
        behind = shifted_down(left, n)
    return left


def folded_above(x, n):
    """The number from 0 to 2**n that differs from x by a multiple of 2**n + 1."""
    most = shifted_up(1, n)
    left = x
    behind = shifted_down(left, n)
    while behind != 0 and left != most:
        left = minus(under(left, n), behind)
        behind = shifted_down(left, n)
    return left
