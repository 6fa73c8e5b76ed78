"""Counting ones and zeros, places that differ, and the carries of sums."""

from farbits.errors import Endless, InvalidCount, InvalidRange, NoSuch
from farbits.far import far_of, form_in, int_or_form, is_number, number_form, place_form
from farbits.ranks import all_ones, having_one, next_one, ones_of_all_under
from farbits.ranks import ones_under, place_of_one
from farbits.raw import carry_turns, differ, minus, plus
from farbits.turns import are_near, compare, flipped_turns, form_of_int, form_with
from farbits.turns import int_of_form, is_negative, turns_in


def ones_below(x, p):
    """How many ones of x are below place p."""
    turns = turns_in(number_form(x))
    return far_of(ones_under(turns, place_form(p)))


def zeros_below(x, p):
    """How many zeros of x are below place p."""
    turns = flipped_turns(turns_in(number_form(x)))
    return far_of(ones_under(turns, place_form(p)))


def kth_one(x, k):
    """The place of the one number k of x."""
    return ranked(turns_in(number_form(x)), k)


def kth_zero(x, k):
    """The place of the zero number k of x."""
    return ranked(flipped_turns(turns_in(number_form(x))), k)


def ranked(turns, k):
    """The place of the one number k, or NoSuch."""
    rank = number_form(k)
    place = None if is_negative(rank) else place_of_one(turns, rank)
    if place is None:
        raise NoSuch(k)
    return far_of(place)


def one_from(x, p):
    """The least one of x from place p on, or None."""
    turns = turns_in(number_form(x))
    return far_or_none(next_one(turns, place_form(p)))


def zero_from(x, p):
    """The least zero of x from place p on, or None."""
    turns = flipped_turns(turns_in(number_form(x)))
    return far_or_none(next_one(turns, place_form(p)))


def far_or_none(form):
    """The number with a form, or None for None."""
    return None if form is None else far_of(form)


def ones(x):
    """How many ones x has."""
    form = int_or_form(x)
    if is_negative(form):
        raise Endless(x)
    return far_of(all_ones(form))


def distance(x, y):
    """At how many places x and y differ."""
    return far_of(all_ones(difference(x, y)))


def highest_difference(x, y):
    """The greatest place at which x and y differ, or None."""
    found = difference(x, y)
    if found == 0:
        return None
    return far_of(found.bit_length() - 1 if isinstance(found, int) else minus(found[-1], 1))


def difference(x, y):
    """The form, or any int, with ones where x and y differ, at finitely many places."""
    first, second = both_forms(x, y)
    found = differ(first, second)
    if is_negative(found):
        raise Endless(y)
    return found


def both_forms(x, y):
    """Any two values where numbers are expected as two ints, or as two forms."""
    first, second = int_or_form(x), int_or_form(y)
    if isinstance(first, int) and isinstance(second, int):
        return first, second
    return form_in(x), form_in(y)


def holders(a, b, p):
    """How many integers n with a <= n < b have a one at place p."""
    low, high = both_forms(a, b)
    if compare(low, high) > 0:
        raise InvalidRange(a, b)
    return far_of(having_one(low, high, place_form(p)))


def ones_in_all(n):
    """The sum of how many ones each integer i with 0 <= i < n has."""
    form = number_form(n)
    if is_negative(form):
        raise InvalidCount(n)
    return far_of(ones_of_all_under(turns_in(form)))


def carries(x, y):
    """The number with a one at each place into which x + y carries one."""
    first, second = both_forms(x, y)
    return far_of(carries_form(first, second))


def carries_form(x, y):
    """The form of the carries of the sum of two ints or forms."""
    if isinstance(x, int) and isinstance(y, int):
        return form_of_int((x + y) ^ x ^ y)
    if are_near(x, y):
        return carries_form(int_of_form(x), int_of_form(y))
    return form_with(carry_turns(turns_in(x), turns_in(y), 0))


def is_sum(x, y, z, c):
    """Whether z is x + y and c is carries(x, y), for any values z and c."""
    first, second = both_forms(x, y)
    if not is_number(z) or not is_number(c):
        return False
    return form_in(z) == plus(first, second) and form_in(c) == carries_form(first, second)
