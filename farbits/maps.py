"""Maps that lead places to places."""

from farbits.errors import InvalidRange, NoPlace, NotMapped, NotOneToOne, Overlap
from farbits.errors import TooManyPieces
from farbits.far import Far, Sound, far_of, form_in, is_number, number_form, place_form
from farbits.leading import domain_of, first_twice, image_of, is_rising, joined_rows
from farbits.leading import place_led, rows_at, rows_back, rows_outside, rows_through
from farbits.leading import rows_with, text_of_row
from farbits.limits import judged
from farbits.places import Places, places_of
from farbits.raw import plus
from farbits.spans import ranges_in, rows_before
from farbits.turns import compare, is_negative

MOST_PIECES = 200


class Map:
    """A map that leads the places of ranges by a number for each range."""

    def __init__(self, pieces=()):
        rows = pieces.checked if isinstance(pieces, Sound) else rows_of_pieces(pieces)
        self._rows = tuple(rows)
        self.pieces = tuple([tuple([Far(Sound(form)) for form in row]) for row in rows])

    @classmethod
    def shift(cls, places, by):
        """The map that leads each place of a set by the same number."""
        number = number_form(by)
        ranges = ranges_in(places.bits.form)
        if len(ranges) > 0:
            least = plus(ranges[0][0], number)
            if is_negative(least):
                raise NoPlace(far_of(least))
        return cls(Sound(sound_rows([(start, stop, number) for start, stop in ranges])))

    def domain(self):
        """The Places that are led."""
        return places_of(domain_of(self._rows))

    def image(self):
        """The Places that are led to."""
        return places_of(image_of(self._rows))

    def twice(self):
        """The least place to which at least two places are led, or None."""
        place = first_twice(self._rows)
        return None if place is None else far_of(place)

    def rising(self):
        """Whether lesser places are led to lesser places."""
        return is_rising(self._rows)

    def fixed(self):
        """The Places that are led to themselves."""
        return places_of(domain_of([row for row in self._rows if row[2] == 0]))

    def __call__(self, places):
        return places_of(image_of(rows_at(self._rows, places.bits.form)))

    def __getitem__(self, at):
        place = place_led(self._rows, place_form(at))
        if place is None:
            raise NotMapped(at)
        return far_of(place)

    def __iter__(self):
        raise TypeError("a map is not iterated over")

    def __contains__(self, x):
        if not is_number(x):
            return False
        place = form_in(x)
        return not is_negative(place) and place_led(self._rows, place) is not None

    def __str__(self):
        if len(self._rows) == 0:
            return "none"
        return ", ".join([text_of_row(row) for row in self._rows])

    def __bool__(self):
        return bool(len(self._rows) > 0)

    def __eq__(self, other):
        return isinstance(other, Map) and self.pieces == other.pieces

    def __mul__(self, other):
        if not isinstance(other, Map):
            return NotImplemented
        return map_of(rows_through(other._rows, self._rows))

    def __invert__(self):
        place = first_twice(self._rows)
        if place is not None:
            raise NotOneToOne(far_of(place))
        return map_of(rows_back(self._rows))

    def __or__(self, other):
        if not isinstance(other, Map):
            return NotImplemented
        return map_of(rows_with(self._rows, other._rows))

    def __and__(self, other):
        if not isinstance(other, Places):
            return NotImplemented
        return map_of(rows_at(self._rows, other.bits.form))

    def __sub__(self, other):
        if not isinstance(other, Places):
            return NotImplemented
        return map_of(rows_outside(self._rows, other.bits.form))


def map_of(rows):
    """The map with these rows of forms, unless they are too many or too large."""
    return Map(Sound(sound_rows(rows)))


def sound_rows(rows):
    """The rows of a map themselves, unless they are too many or too large."""
    if len(rows) > MOST_PIECES:
        raise TooManyPieces(len(rows))
    for row in rows:
        for form in row:
            judged(form)
    return rows


def rows_of_pieces(pieces):
    """The rows of forms of a map for a list of pieces in any order."""
    rows = []
    for index, piece in enumerate(pieces):
        start, stop, by = piece
        low, high, number = number_form(start), number_form(stop), number_form(by)
        if is_negative(low) or compare(low, high) > 0:
            raise InvalidRange(start, stop)
        if low == high:
            continue
        least = plus(low, number)
        if is_negative(least):
            raise NoPlace(far_of(least))
        at = rows_before(rows, low)
        if at < len(rows) and compare(rows[at][0], high) < 0:
            raise Overlap(index)
        rows.insert(at, (low, high, number))
    return sound_rows(joined_rows(rows))
