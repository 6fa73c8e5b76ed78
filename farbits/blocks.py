"""The cover of a range: its greatest aligned blocks.

Where start and stop differ highest, at place h, lies the `middle`: what stop is
from h on. The blocks below it have as their orders the ones of middle - start,
from the lowest to the highest, and those above it the ones of stop - middle, from
the highest to the lowest. A block ends, or starts, where the higher ones of that
number alone lead from the middle.
"""

from farbits.ranks import all_ones, ones_under, place_of_one
from farbits.raw import bit_at, differ, minus, plus, plus_one, shifted_down, shifted_up
from farbits.turns import compare, turns_in


def cover_of(start, stop):
    """(middle, below, above) of a range: what lies on both sides of the middle."""
    turns = turns_in(differ(start, stop))
    if len(turns) == 0:
        return (stop, 0, 0)
    highest = minus(turns[-1], 1)
    middle = shifted_up(shifted_down(stop, highest), highest)
    return (middle, minus(middle, start), minus(stop, middle))


def blocks_in(side):
    """How many blocks a side of the middle has."""
    return all_ones(side)


def block_below(cover, order):
    """(start, stop) of the block below the middle that has an order."""
    middle, below, _ = cover
    stop = minus(middle, higher(below, order))
    return (minus(stop, shifted_up(1, order)), stop)


def block_above(cover, order):
    """(start, stop) of the block above the middle that has an order."""
    middle, _, above = cover
    start = plus(middle, higher(above, order))
    return (start, plus(start, shifted_up(1, order)))


def higher(x, order):
    """x without its bits at a place and below it."""
    place = plus_one(order)
    return shifted_up(shifted_down(x, place), place)


def block_by_number(cover, k):
    """(start, stop) of the block number k, or None."""
    _, below, above = cover
    before = blocks_in(below)
    if compare(k, before) < 0:
        return block_below(cover, place_of_one(turns_in(below), k)) if compare(k, 0) >= 0 else None
    rank = minus(minus(plus(before, blocks_in(above)), 1), k)
    if compare(rank, 0) < 0:
        return None
    return block_above(cover, place_of_one(turns_in(above), rank))


def block_at(cover, address):
    """(k, start, stop) of the block number k that has an address, or None."""
    middle, below, above = cover
    if compare(address, middle) < 0:
        distance = minus(minus(middle, 1), address)
        if compare(distance, below) >= 0:
            return None
        order = highest_of(differ(below, distance))
        start, stop = block_below(cover, order)
        return (ones_under(turns_in(below), order), start, stop)
    distance = minus(address, middle)
    if compare(distance, above) >= 0:
        return None
    order = highest_of(differ(above, distance))
    start, stop = block_above(cover, order)
    behind = ones_under(turns_in(above), plus_one(order))
    return (minus(plus(blocks_in(below), blocks_in(above)), behind), start, stop)


def highest_of(x):
    """The highest one of a number above 0."""
    return minus(turns_in(x)[-1], 1)


def blocks_of_order(cover, order):
    """The list of the (start, stop) of the blocks that have an order, ascending."""
    _, below, above = cover
    blocks = []
    if bit_at(below, order) == 1:
        blocks.append(block_below(cover, order))
    if bit_at(above, order) == 1:
        blocks.append(block_above(cover, order))
    return blocks
