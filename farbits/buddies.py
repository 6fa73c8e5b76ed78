"""Rooms of 2**top cells, of which aligned blocks are kept under names."""

from farbits.cells import block_around, block_from, block_number, fitting, free_row, freed
from farbits.cells import greatest_order, is_free, many_blocks, many_fitting
from farbits.cells import many_of_order, order_of_block, used
from farbits.covers import far_tuple
from farbits.errors import Guarded, InvalidName, NameTaken, NoBlock, NoBuddy, Outside
from farbits.errors import UnknownName
from farbits.far import far_of, number_form, place_form
from farbits.history import Log
from farbits.limits import judged
from farbits.names import is_name, row_named
from farbits.raw import minus, plus, plus_one, shifted_up, total
from farbits.spans import rounded_down, rows_before
from farbits.turns import compare


class Buddies:
    """A room that halves and joins free blocks.

    Its content is a tuple (kept, free, guards): the rows (start, stop, name, order) of
    the blocks that are kept, ascending; the rows of the free cells; and the rows
    (order, many, the order as it was passed, the many as it was passed) of the guards,
    orders ascending.
    """

    def __init__(self, top):
        order = place_form(top)
        cells = judged(shifted_up(1, order))
        self.top = far_of(order)
        self._cells = cells
        self._log = Log(((), (free_row(0, cells),), ()))

    def take(self, name, order):
        """Keeps a block of an order under a new name, and returns it."""
        if not is_name(name):
            raise InvalidName(name)
        kept, free, guards = self._log.content()
        if row_named(kept, name) is not None:
            raise NameTaken(name)
        start, stop = block_for(free, place_form(order), order)
        self._log.go_on(with_block(kept, free, guards, (start, stop, name, place_form(order))))
        return far_tuple((start, stop))

    def give(self, name):
        """Frees the block of a name, and returns the free block that holds its cells."""
        kept, free, guards = self._log.content()
        start, stop, _, _ = row_of(kept, name)
        more = freed(free, start, stop)
        told = far_tuple(block_around(more, start))
        self._log.go_on((without_block(kept, name), more, guards))
        return told

    def __setitem__(self, at, worth):
        if not is_name(at):
            raise InvalidName(at)
        order = place_form(worth)
        kept, free, guards = self._log.content()
        row = row_named(kept, at)
        if row is None:
            others, more = kept, free
            start, stop = block_for(more, order, worth)
        else:
            others, more = without_block(kept, at), freed(free, row[0], row[1])
            start, stop = block_again(more, row, order, worth)
        self._log.go_on(with_block(others, more, guards, (start, stop, at, order)))

    def guard(self, order, many=1):
        """Refuses deeds after which fewer than so many blocks of an order would fit."""
        place, least = place_form(order), place_form(many)
        kept, free, guards = self._log.content()
        if compare(many_fitting(free, place), least) < 0:
            raise Guarded(order, many)
        at = len([row for row in guards if compare(row[0], place) < 0])
        others = tuple([row for row in guards if row[0] != place])
        if least != 0:
            others = (*others[:at], (judged(place), judged(least), order, many), *others[at:])
        self._log.go_on((kept, free, others))

    def undo(self):
        """Takes back the last deed that is not taken back yet."""
        self._log.go_back()

    def attempt(self, action):
        """What action(room) returns; if it raises an error, the room is as before."""
        return self._log.attempted(self, action)

    def copied(self):
        """A new room with the same state."""
        room = Buddies(self.top)
        room._log = self._log.twin()
        return room

    def __getitem__(self, at):
        kept, _, _ = self._log.content()
        start, stop, _, _ = row_of(kept, at)
        return far_tuple((start, stop))

    def __iter__(self):
        raise TypeError("a room is not iterated over")

    def __contains__(self, x):
        kept, _, _ = self._log.content()
        return row_named(kept, x) is not None

    def __len__(self):
        return len(self._log.content()[0])

    def names(self):
        """The list of the names, ascending by address."""
        kept, _, _ = self._log.content()
        return [row[2] for row in kept]

    def guards(self):
        """The list of (order, many), orders ascending."""
        _, _, guards = self._log.content()
        return [far_tuple((row[0], row[1])) for row in guards]

    def who(self, address):
        """The name whose block holds an address, or None."""
        place = place_form(address)
        if compare(place, self._cells) >= 0:
            raise Outside(address)
        kept, _, _ = self._log.content()
        at = rows_before(kept, place)
        if at == len(kept) or compare(kept[at][0], place) > 0:
            return None
        return kept[at][2]

    def _free(self):
        """The rows of the free cells."""
        return self._log.content()[1]

    def free_ranges(self):
        """The list of the longest ranges of free cells, ascending."""
        return [far_tuple((start, stop)) for start, stop, _ in self._free()]

    def free_cells(self):
        """How many cells are free."""
        return far_of(total([minus(stop, start) for start, stop, _ in self._free()]))

    def fits(self, order):
        """How many aligned blocks of an order consist of free cells."""
        return far_of(many_fitting(self._free(), place_form(order)))

    def free_count(self, order):
        """How many free blocks have exactly an order, an int."""
        return many_of_order(self._free(), place_form(order))

    def free_blocks(self):
        """How many free blocks there are."""
        return far_of(total([many_blocks(cover) for _, _, cover in self._free()]))

    def free_block(self, k):
        """The free block number k, starts ascending."""
        block = block_number(self._free(), number_form(k))
        if block is None:
            raise NoBlock(k)
        return far_tuple(block)

    def greatest(self):
        """The greatest order of a free block, or None."""
        most = greatest_order(self._free())
        return None if most is None else far_of(most)

    def would(self, order):
        """The block that take would keep, guards apart, or None."""
        wanted = place_form(order)
        block = fitting(self._free(), wanted)
        return None if block is None else far_tuple(block_from(block[0], wanted))

    def halvings(self, order):
        """How often take would halve the free block that it looks at."""
        wanted = place_form(order)
        block = free_block_for(self._free(), wanted, order)
        return far_of(minus(order_of_block(block), wanted))

    def halved(self, order, j):
        """The upper half that the halving number j leaves free."""
        wanted, rank = place_form(order), number_form(j)
        block = free_block_for(self._free(), wanted, order)
        most = order_of_block(block)
        if compare(rank, 0) < 0 or compare(rank, minus(most, wanted)) >= 0:
            raise NoBlock(j)
        _, half = block_from(block[0], minus(minus(most, 1), rank))
        return far_tuple(block_from(half, minus(minus(most, 1), rank)))

    def joinings(self, name):
        """How often give would join the block of a name with a free half."""
        kept, free, _ = self._log.content()
        return far_of(joinings_of(free, row_of(kept, name)))

    def joined(self, name, j):
        """The block that the joining number j makes."""
        kept, free, _ = self._log.content()
        row = row_of(kept, name)
        rank = number_form(j)
        if compare(rank, 0) < 0 or compare(rank, joinings_of(free, row)) >= 0:
            raise NoBlock(j)
        order = plus_one(plus(row[3], rank))
        return far_tuple(block_from(rounded_down(row[0], order), order))


def row_of(kept, name):
    """The row of the block of a name, or InvalidName or UnknownName."""
    if not is_name(name):
        raise InvalidName(name)
    row = row_named(kept, name)
    if row is None:
        raise UnknownName(name)
    return row


def free_block_for(free, wanted, order):
    """The free block that a block is taken from; an error holds the order as passed."""
    block = fitting(free, wanted)
    if block is None:
        most = greatest_order(free)
        raise NoBuddy(order, None if most is None else far_of(most))
    return block


def block_for(free, wanted, order):
    """The block of an order that take keeps."""
    return block_from(free_block_for(free, wanted, order)[0], wanted)


def block_again(free, row, wanted, order):
    """The block that a name keeps with another order, when its own block is free."""
    block = block_from(row[0], wanted)
    # A lesser block lies in the own one, which is aligned to more than its order.
    if rounded_down(row[0], wanted) == row[0] and is_free(free, block[0], block[1]):
        return block
    return block_for(free, wanted, order)


def with_block(kept, free, guards, row):
    """The content in which a free block is kept, unless a guard or its size forbids it."""
    start, stop, _, _ = row
    left = used(free, start, stop)
    for order, many, passed, least in guards:
        if compare(many_fitting(left, order), many) < 0:
            raise Guarded(passed, least)
    judged(start)
    judged(stop)
    at = rows_before(kept, start)
    return ((*kept[:at], row, *kept[at:]), left, guards)


def without_block(kept, name):
    """The rows of the blocks that are kept under other names."""
    return tuple([row for row in kept if row[2] != name])


def joinings_of(free, row):
    """The order of the free block that give would return, minus that of the block."""
    start, stop, _, order = row
    return minus(order_of_block(block_around(freed(free, start, stop), start)), order)
