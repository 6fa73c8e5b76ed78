"""How many ones there are, and where, for sequences of turns.

The zeros of an integer are the ones of its flipped turns.
"""

from farbits.raw import bit_at, minus, opposite, plus, plus_one, shifted_down
from farbits.raw import shifted_up, total
from farbits.turns import compare, turns_before, turns_up_to


def ones_under(turns, place):
    """How many ones are below a place."""
    many = turns_before(turns, place, 0)
    lengths = [minus(turns[k], turns[k - 1]) for k in range(1, many, 2)]
    if many & 1:
        lengths.append(minus(place, turns[many - 1]))
    return total(lengths)


def all_ones(turns):
    """How many ones there are, for an integer from 0 on."""
    return total([minus(turns[k], turns[k - 1]) for k in range(1, len(turns), 2)])


def place_of_one(turns, rank):
    """The place of the one with a number from 0 on, or None."""
    left = rank
    for k in range(0, len(turns), 2):
        if k + 1 < len(turns):
            length = minus(turns[k + 1], turns[k])
            if compare(left, length) >= 0:
                left = minus(left, length)
                continue
        return plus(turns[k], left)
    return None


def next_one(turns, place):
    """The least one from a place on, or None."""
    many = turns_up_to(turns, place)
    if many & 1:
        return place
    return turns[many] if many < len(turns) else None


def ones_of_all_under(turns):
    """The sum of how many ones each integer has that is from 0 on and less."""
    # The integers that agree above a run with ones from low to high - 1, and are
    # less there, have 2**high * (above + high / 2) - 2**low * (behind + low / 2)
    # ones, with the numbers of ones at the places from high on and from low on.
    above = 0
    doubled = []
    for k in range(len(turns) - 1, 0, -2):
        low, high = turns[k - 1], turns[k]
        doubled.append(shifted_up(plus(high, shifted_up(above, 1)), high))
        above = plus(above, minus(high, low))
        doubled.append(opposite(shifted_up(plus(low, shifted_up(above, 1)), low)))
    return shifted_down(total(doubled), 1)


def having_one(x, place):
    """How many integers from 0 to x - 1 have a one at a place; for a negative x,
    the negative of how many from x to -1.
    """
    many = shifted_up(shifted_down(x, plus_one(place)), place)
    if bit_at(x, place) == 0:
        return many
    behind = shifted_up(shifted_down(x, place), place)
    return plus(many, minus(x, behind))
