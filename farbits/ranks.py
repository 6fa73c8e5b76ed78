"""How many ones there are, and where, for sequences of turns.

The zeros of an integer are the ones of its flipped turns.
"""

from farbits.raw import bit_at, minus, opposite, plus, plus_one, shifted_down
from farbits.raw import shifted_up, total
from farbits.turns import FAR_PLACE, compare, form_of_int, near_int, turns_before
from farbits.turns import turns_up_to


def ones_under(turns, place):
    """How many ones are below a place."""
    many = turns_before(turns, place, 0)
    count = lengths_in(turns[:many])
    if many & 1:
        return plus(count, minus(place, turns[many - 1]))
    return count


def all_ones(x):
    """How many ones a form, or any int, from 0 on has."""
    if isinstance(x, int):
        text = f"{x:b}"
        return text.count("1")
    return lengths_in(x)


def lengths_in(turns):
    """How many places are from each second turn to the next."""
    if are_ints(turns):
        return form_of_int(sum(turns[1::2]) - sum(turns[:len(turns) - 1:2]))
    return total([minus(turns[k], turns[k - 1]) for k in range(1, len(turns), 2)])


def are_ints(turns):
    """Whether all turns are ints: the last one decides."""
    return len(turns) == 0 or isinstance(turns[-1], int)


def place_of_one(turns, rank):
    """The place of the one with a number from 0 on, or None."""
    left = rank
    if are_ints(turns) and isinstance(rank, int):
        return near_place_of_one(turns, rank)
    for k in range(0, len(turns), 2):
        if k + 1 < len(turns):
            length = minus(turns[k + 1], turns[k])
            if compare(left, length) >= 0:
                left = minus(left, length)
                continue
        return plus(turns[k], left)
    return None


def near_place_of_one(turns, rank):
    """place_of_one for ints."""
    left = rank
    for k in range(1, len(turns), 2):
        length = turns[k] - turns[k - 1]
        if left < length:
            return turns[k - 1] + left
        left = left - length
    return form_of_int(turns[-1] + left) if len(turns) & 1 else None


def next_one(turns, place):
    """The least one from a place on, or None."""
    many = turns_up_to(turns, place)
    if many & 1:
        return place
    return turns[many] if many < len(turns) else None


def ones_of_all_under(turns):
    """The sum of how many ones each integer has that is from 0 on and less."""
    # The integers that agree above a run with ones from low to high - 1, and are
    # less there, have 2**high * (above + high / 2) - 2**low * (behind + low / 2)
    # ones, with the numbers of ones at the places from high on and from low on.
    if len(turns) > 0 and isinstance(turns[-1], int) and turns[-1] <= FAR_PLACE:
        return form_of_int(near_ones_of_all_under(turns))
    above = 0
    doubled = []
    for k in range(len(turns) - 1, 0, -2):
        low, high = turns[k - 1], turns[k]
        doubled.append(shifted_up(plus(high, shifted_up(above, 1)), high))
        above = plus(above, minus(high, low))
        doubled.append(opposite(shifted_up(plus(low, shifted_up(above, 1)), low)))
    return shifted_down(total(doubled), 1)


def near_ones_of_all_under(turns):
    """ones_of_all_under for near turns, as an int."""
    above = 0
    doubled = 0
    for k in range(len(turns) - 1, 0, -2):
        low, high = turns[k - 1], turns[k]
        doubled = doubled + ((high + 2 * above) << high)
        above = above + high - low
        doubled = doubled - ((low + 2 * above) << low)
    return doubled >> 1


def having_one(low, high, place):
    """How many integers n with low <= n < high have a one at a place, for forms or ints."""
    first, second = near_int(low), near_int(high)
    if first is None or second is None or not isinstance(place, int) or place > FAR_PLACE:
        return minus(ones_up_to(high, place), ones_up_to(low, place))
    return form_of_int(near_ones_up_to(second, place) - near_ones_up_to(first, place))


def ones_up_to(x, place):
    """How many integers from 0 to x - 1 have a one at a place; for a negative x,
    the negative of how many from x to -1.
    """
    many = shifted_up(shifted_down(x, plus_one(place)), place)
    if bit_at(x, place) == 0:
        return many
    behind = shifted_up(shifted_down(x, place), place)
    return plus(many, minus(x, behind))


def near_ones_up_to(x, place):
    """ones_up_to for ints."""
    many = (x >> (place + 1)) << place
    if (x >> place) & 1 == 0:
        return many
    return many + x - ((x >> place) << place)
