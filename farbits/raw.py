"""The arithmetic of forms, without any judging of how large a result is.

What is only needed on the way is computed with these functions; the functions
that callers see judge what they return.
"""

from farbits.turns import PLAIN_STOP, are_near, common_turns, flipped_turns
from farbits.turns import form_of_int, form_with, int_of_form, is_less, merged_turns
from farbits.turns import shorter_first, turns_in, turns_up_to


def bit_at(x, place):
    """The bit of x at a place from 0 on."""
    return turns_up_to(turns_in(x), place) & 1


def flip(x):
    """~x"""
    if isinstance(x, int):
        return ~x
    return form_with(flipped_turns(x))


def both(x, y):
    """x & y"""
    if isinstance(x, int) and isinstance(y, int):
        return x & y
    if are_near(x, y):
        return form_of_int(int_of_form(x) & int_of_form(y))
    return form_with(common_turns(turns_in(x), turns_in(y)))


def either(x, y):
    """x | y"""
    return flip(both(flip(x), flip(y)))


def differ(x, y):
    """x ^ y"""
    if isinstance(x, int) and isinstance(y, int):
        return x ^ y
    if are_near(x, y):
        return form_of_int(int_of_form(x) ^ int_of_form(y))
    return form_with(merged_turns(turns_in(x), turns_in(y)))


def plus_one(x):
    """x + 1"""
    if isinstance(x, int):
        return form_of_int(x + 1)
    # The bits from 0 to the lowest zero change. If bit 0 is a one, then the
    # lowest zero stands at the second turn.
    behind = plus_one(x[1]) if x[0] == 0 else 1
    return form_with(merged_turns((0, behind), x))


def opposite(x):
    """-x"""
    if isinstance(x, int):
        return form_of_int(-x)
    return plus_one(flip(x))


def carry_turns(x, y, carry):
    """The turns of the carries of x + y + carry, as a new list.

    Bit p of the carries is what comes into place p. Over a stretch of equal
    bits of one operand it changes at most once, to that bit, behind the first
    place where the other operand has the same bit.
    """
    few, many = shorter_first(x, y)
    turns = []
    if carry == 1:
        turns.append(0)
    bit_in = carry
    at = 0
    for k in range(len(few) + 1):
        bit = k & 1
        if bit == bit_in:
            continue
        start = few[k - 1] if k > 0 else 0
        at = turns_up_to(many, start, at)
        if (at & 1) != bit and at == len(many):
            continue
        place = start if (at & 1) == bit else many[at]
        if k == len(few) or is_less(place, few[k]):
            turns.append(plus_one(place))
            bit_in = bit
    return turns


def summed_turns(x, y, carry):
    """The turns of x + y + carry, as a new list."""
    few, many = shorter_first(x, y)
    return merged_turns(merged_turns(few, carry_turns(few, many, carry)), many)


def plus(x, y):
    """x + y"""
    if isinstance(x, int) and isinstance(y, int):
        return form_of_int(x + y)
    if are_near(x, y):
        return form_of_int(int_of_form(x) + int_of_form(y))
    return form_with(summed_turns(turns_in(x), turns_in(y), 0))


def minus(x, y):
    """x - y"""
    if isinstance(x, int) and isinstance(y, int):
        return form_of_int(x - y)
    if are_near(x, y):
        return form_of_int(int_of_form(x) - int_of_form(y))
    return form_with(summed_turns(turns_in(x), flipped_turns(turns_in(y)), 1))


def shifted_up(x, amount):
    """x * 2**amount, for an amount from 0 on."""
    turns = turns_in(x)
    if are_movable(turns, amount):
        return form_with([turn + amount for turn in turns])
    return form_with([plus(turn, amount) for turn in turns])


def shifted_down(x, amount):
    """x divided by 2**amount and rounded down, for an amount from 0 on."""
    turns = turns_in(x)
    at = turns_up_to(turns, amount)
    if are_movable(turns, amount):
        moved = [turn - amount for turn in turns[at:]]
    else:
        moved = [minus(turn, amount) for turn in turns[at:]]
    return form_with([0, *moved] if at & 1 else moved)


def are_movable(turns, amount):
    """Whether turns and an amount are plain ints, and their sums, too."""
    if not isinstance(amount, int) or len(turns) == 0 or not isinstance(turns[-1], int):
        return False
    return turns[-1] + amount < PLAIN_STOP


def total(forms):
    """The sum of a list of forms."""
    if not forms:
        return 0
    level = forms
    # Neighbours are added first: adding one by one would walk again and again
    # over all that is summed so far.
    while len(level) > 1:
        level = pair_sums(level)
    return level[0]


def pair_sums(forms):
    """The sums of each two neighbours; a last one without a neighbour stays."""
    sums = [plus(forms[k - 1], forms[k]) for k in range(1, len(forms), 2)]
    if len(forms) & 1:
        sums.append(forms[-1])
    return sums


def times(x, y):
    """x * y"""
    if isinstance(x, int) and isinstance(y, int):
        return form_of_int(x * y)
    if are_near(x, y):
        return form_of_int(int_of_form(x) * int_of_form(y))
    few, many = shorter_first(turns_in(x), turns_in(y))
    factor = form_with(many)
    against = opposite(factor)
    # An integer is -2**t1 + 2**t2 - 2**t3 + .. over its turns.
    return total([
        shifted_up(factor if k & 1 else against, few[k])
        for k in range(len(few))
    ])


def place_of_power(x):
    """The p for which x is 2**p, or None."""
    turns = turns_in(x)
    if len(turns) == 2 and plus_one(turns[0]) == turns[1]:
        return turns[0]
    return None
