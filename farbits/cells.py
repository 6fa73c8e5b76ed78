"""Free cells as ascending rows (start, stop, cover): a longest range and its cover.

The free blocks are the blocks of the covers. Nothing in this file judges how large a
number is.
"""

from farbits.blocks import block_above, block_at, block_below, block_by_number, blocks_in
from farbits.blocks import cover_of, highest_of
from farbits.ranks import next_one
from farbits.raw import bit_at, minus, opposite, plus, shifted_down, shifted_up, total
from farbits.spans import greater, lesser, rows_before
from farbits.turns import compare, turns_in


def free_row(start, stop):
    """The row of a range."""
    return (start, stop, cover_of(start, stop))


def block_from(start, order):
    """The block (start, stop) of an order."""
    return (start, plus(start, shifted_up(1, order)))


def order_of_block(block):
    """The order of a block (start, stop)."""
    start, stop = block
    return highest_of(minus(stop, start))


def freed(free, start, stop):
    """The rows when the cells of a range are free, too."""
    low = rows_before(free, start)
    high = low
    first, behind = start, stop
    if low > 0 and free[low - 1][1] == start:
        low -= 1
        first = free[low][0]
    if high < len(free) and free[high][0] == stop:
        behind = free[high][1]
        high += 1
    return (*free[:low], free_row(first, behind), *free[high:])


def used(free, start, stop):
    """The rows when the cells of a range, which are free, are so no longer."""
    at = rows_before(free, start)
    first, behind, _ = free[at]
    left = []
    if first != start:
        left.append(free_row(first, start))
    if behind != stop:
        left.append(free_row(stop, behind))
    return (*free[:at], *left, *free[at + 1:])


def is_free(free, start, stop):
    """Whether all cells of a range are free."""
    at = rows_before(free, start)
    if at == len(free):
        return False
    first, behind, _ = free[at]
    return compare(first, start) <= 0 and compare(stop, behind) <= 0


def block_around(free, place):
    """The free block that holds a free cell."""
    _, _, cover = free[rows_before(free, place)]
    _, start, stop = block_at(cover, place)
    return (start, stop)


def fitting(free, order):
    """The free block that a block of an order is taken from, or None."""
    least = None
    found = None
    for _, _, cover in free:
        next_order = least_order(cover, order)
        if next_order is None:
            continue
        if least is None or compare(next_order, least) < 0:
            least = next_order
            found = cover
    if found is None:
        return None
    if bit_at(found[1], least) == 1:
        return block_below(found, least)
    return block_above(found, least)


def least_order(cover, order):
    """The least order from a given one on that a block of a cover has, or None."""
    _, below, above = cover
    first = next_one(turns_in(below), order)
    second = next_one(turns_in(above), order)
    if first is None or second is None:
        return second if first is None else first
    return lesser(first, second)


def greatest_order(free):
    """The greatest order of a free block, or None."""
    most = None
    for _, _, cover in free:
        for side in cover[1:]:
            if side != 0:
                order = highest_of(side)
                most = order if most is None else greater(most, order)
    return most


def many_fitting(free, order):
    """How many aligned blocks of an order consist of free cells."""
    counts = []
    for start, stop, _ in free:
        first = opposite(shifted_down(opposite(start), order))
        many = minus(shifted_down(stop, order), first)
        if compare(many, 0) > 0:
            counts.append(many)
    return total(counts)


def many_of_order(free, order):
    """How many free blocks have exactly an order, an int."""
    return sum([bit_at(below, order) + bit_at(above, order) for _, _, (_, below, above) in free])


def many_blocks(cover):
    """How many blocks a cover has."""
    _, below, above = cover
    return plus(blocks_in(below), blocks_in(above))


def block_number(free, k):
    """The free block number k, or None."""
    left = k
    if compare(left, 0) < 0:
        return None
    for _, _, cover in free:
        many = many_blocks(cover)
        if compare(left, many) < 0:
            return block_by_number(cover, left)
        left = minus(left, many)
    return None
