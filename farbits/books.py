"""Address books: the addresses below a limit are given to rooms."""

from farbits.errors import InvalidName, NameTaken, NoRoom, Outside, RoomThere
from farbits.errors import TooManyRooms, UnknownName
from farbits.far import Far, Sound, far_of, place_form, range_forms
from farbits.history import Log
from farbits.leading import joined_rows
from farbits.limits import judged
from farbits.maps import map_of
from farbits.names import is_name, row_named
from farbits.places import places_of, size_form, without
from farbits.raw import both, either, minus, plus
from farbits.spans import form_of_ranges, gap_from, rows_before, rows_within, widest_gap
from farbits.turns import compare, form_with

MOST_ROOMS = 40


class Book:
    """An address book.

    Its content is a tuple (rooms, kept): a tuple of rows (start, stop, name) of the
    rooms, ascending, and the form with ones at the addresses that are kept.
    """

    def __init__(self, limit):
        self.limit = far_of(size_form(limit))
        self._log = Log(((), 0))

    def take(self, name, size, *, level=0, above=0):
        """Gives the least free range of a size to a new room, and returns its start."""
        if not is_name(name):
            raise InvalidName(name)
        rooms, kept = self._log.content()
        if row_named(rooms, name) is not None:
            raise NameTaken(name)
        amount, step, first = size_form(size), place_form(level), place_form(above)
        if len(rooms) == MOST_ROOMS:
            raise TooManyRooms(name)
        start = gap_from(either(kept, taken_by(rooms)), amount, step, first)
        stop = plus(start, amount)
        if compare(stop, self.limit.form) > 0:
            raise NoRoom(name, size)
        self._log.go_on((with_room(rooms, (start, stop, name)), kept))
        return Far(Sound(start))

    def give(self, name):
        """Ends a room."""
        rooms, kept = self._log.content()
        room = room_of(rooms, name)
        self._log.go_on((without_room(rooms, room), kept))

    def resize(self, name, size):
        """Gives another size to a room."""
        rooms, kept = self._log.content()
        room = room_of(rooms, name)
        amount = size_form(size)
        others = without_room(rooms, room)
        start = room[0]
        stop = plus(start, amount)
        barred = both(either(kept, taken_by(others)), form_with([start, stop]))
        if barred != 0 or compare(stop, self.limit.form) > 0:
            raise NoRoom(name, size)
        self._log.go_on((with_room(others, (start, stop, name)), kept))

    def move(self, name, *, level=0, above=0):
        """Moves a room to the least start that take would find, and returns it."""
        rooms, kept = self._log.content()
        room = room_of(rooms, name)
        step, first = place_form(level), place_form(above)
        others = without_room(rooms, room)
        amount = minus(room[1], room[0])
        start = gap_from(either(kept, taken_by(others)), amount, step, first)
        stop = plus(start, amount)
        if compare(stop, self.limit.form) > 0:
            raise NoRoom(name, far_of(amount))
        self._log.go_on((with_room(others, (start, stop, name)), kept))
        return Far(Sound(start))

    def pack(self, *, level=0):
        """Moves all rooms down as far as their order allows, and returns the Map."""
        step = place_form(level)
        rooms, kept = self._log.content()
        packed = []
        moves = []
        behind = 0
        for start, stop, name in rooms:
            amount = minus(stop, start)
            first = gap_from(kept, amount, step, behind)
            behind = plus(first, amount)
            if compare(behind, self.limit.form) > 0:
                raise NoRoom(name, far_of(amount))
            packed.append((first, behind, name))
            moves.append((start, stop, minus(first, start)))
        for first, behind, _ in packed:
            judged(first)
            judged(behind)
        told = map_of(joined_rows(moves))
        self._log.go_on((tuple(packed), kept))
        return told

    def keep(self, start, stop):
        """Keeps the addresses of a range."""
        low, high = self._inside(start, stop)
        rooms, kept = self._log.content()
        there = rows_within(rooms, low, high)
        if len(there) > 0:
            raise RoomThere(there[0][2])
        self._log.go_on((rooms, either(kept, form_of_ranges([(low, high)]))))

    def unkeep(self, start, stop):
        """Keeps the addresses of a range no longer."""
        low, high = self._inside(start, stop)
        rooms, kept = self._log.content()
        self._log.go_on((rooms, without(kept, form_of_ranges([(low, high)]))))

    def _inside(self, start, stop):
        """The forms of any two values where a range of addresses is expected."""
        low, high = range_forms(start, stop)
        if compare(high, self.limit.form) > 0:
            raise Outside(stop)
        return low, high

    def rooms(self):
        """The list of (name, start, stop), starts ascending."""
        rooms, _ = self._log.content()
        return [(name, Far(Sound(start)), Far(Sound(stop))) for start, stop, name in rooms]

    def taken(self):
        """The Places of the addresses that rooms have."""
        rooms, _ = self._log.content()
        return places_of(taken_by(rooms))

    def kept(self):
        """The Places of the addresses that are kept."""
        _, kept = self._log.content()
        return places_of(kept)

    def unused(self):
        """The Places of the addresses that are free."""
        rooms, kept = self._log.content()
        return places_of(without(form_with([0, self.limit.form]), either(kept, taken_by(rooms))))

    def who(self, address):
        """The name of the room that has an address, or None."""
        place = place_form(address)
        if compare(place, self.limit.form) >= 0:
            raise Outside(address)
        rooms, _ = self._log.content()
        at = rows_before(rooms, place)
        if at == len(rooms) or compare(rooms[at][0], place) > 0:
            return None
        return rooms[at][2]

    def best(self, *, level=0, above=0):
        """The greatest size for which take would find a start, 0 if there is none."""
        step, first = place_form(level), place_form(above)
        rooms, kept = self._log.content()
        return far_of(widest_gap(either(kept, taken_by(rooms)), self.limit.form, step, first))

    def undo(self):
        """Takes back the last deed that is not taken back yet."""
        self._log.go_back()

    def undoable(self):
        """How many deeds can be taken back."""
        return self._log.many_before()

    def attempt(self, action):
        """What action(book) returns; if it raises an error, the book is as before."""
        return self._log.attempted(self, action)

    def explore(self, action):
        """What action(book) returns; the book is as before in any case."""
        return self._log.explored(self, action)

    def __getitem__(self, at):
        rooms, _ = self._log.content()
        start, stop, _ = room_of(rooms, at)
        return Far(Sound(start)), Far(Sound(stop))

    def __iter__(self):
        raise TypeError("a book is not iterated over")

    def __contains__(self, x):
        rooms, _ = self._log.content()
        return row_named(rooms, x) is not None

    def __len__(self):
        return len(self._log.content()[0])


def room_of(rooms, name):
    """The row of the room that any value is the name of, or UnknownName."""
    room = row_named(rooms, name)
    if room is None:
        raise UnknownName(name)
    return room


def taken_by(rooms):
    """The form with ones at the addresses that rooms have."""
    return form_of_ranges([(start, stop) for start, stop, _ in rooms])


def with_room(rooms, room):
    """The rows of rooms and one more, unless its start or its stop is too large."""
    start, stop, _ = room
    judged(start)
    judged(stop)
    at = rows_before(rooms, start)
    return (*rooms[:at], room, *rooms[at:])


def without_room(rooms, room):
    """The rows of rooms without one of them."""
    return tuple([other for other in rooms if other[2] != room[2]])
