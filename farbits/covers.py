"""Covers of ranges by aligned blocks."""

from farbits.blocks import block_at, block_by_number, blocks_in, blocks_of_order, cover_of
from farbits.errors import NoBlock
from farbits.far import far_of, number_form, place_form, range_forms
from farbits.raw import plus


def cover_count(start, stop):
    """How many blocks the cover of a range has."""
    _, below, above = range_cover(start, stop)
    return far_of(plus(blocks_in(below), blocks_in(above)))


def cover_block(start, stop, k):
    """The block number k of the cover of a range."""
    cover = range_cover(start, stop)
    block = block_by_number(cover, number_form(k))
    if block is None:
        raise NoBlock(k)
    return far_tuple(block)


def cover_at(start, stop, address):
    """(k, first, behind): the block number k of the cover that has an address."""
    cover = range_cover(start, stop)
    block = block_at(cover, number_form(address))
    if block is None:
        raise NoBlock(address)
    return far_tuple(block)


def cover_level(start, stop, order):
    """The list of the blocks of an order in the cover of a range, ascending."""
    cover = range_cover(start, stop)
    return [far_tuple(block) for block in blocks_of_order(cover, place_form(order))]


def range_cover(start, stop):
    """The cover of any two values where a range is expected."""
    low, high = range_forms(start, stop)
    return cover_of(low, high)


def far_tuple(forms):
    """The tuple of the numbers with these forms, judged from left to right."""
    return tuple([far_of(form) for form in forms])
