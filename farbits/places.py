"""Finite sets of places."""

from farbits.errors import InvalidSet, InvalidSize, NoSuch
from farbits.far import Far, amount_form, far_of, form_in, is_number, number_form
from farbits.far import place_form, range_forms
from farbits.ranks import all_ones, ones_under, place_of_one
from farbits.raw import bit_at, both, differ, either, flip, minus, shifted_down
from farbits.raw import shifted_up
from farbits.spans import form_of_ranges, gap_from, in_order, pages_of, ranges_in
from farbits.spans import whole_pages_of
from farbits.texts import write_form
from farbits.turns import compare, is_negative, turns_in


class Places:
    """The finite set of the places at which a number from 0 on has a one."""

    def __init__(self, bits=0):
        if is_negative(number_form(bits)):
            raise InvalidSet(bits)
        self.bits = bits if isinstance(bits, Far) else Far(bits)

    @classmethod
    def of(cls, ranges):
        """The union of a list of ranges."""
        found = [range_forms(start, stop) for start, stop in ranges]
        return cls(far_of(form_of_ranges(in_order(found))))

    def ranges(self):
        """The list of the longest ranges in the set, ascending."""
        return [(far_of(start), far_of(stop)) for start, stop in ranges_in(self.bits.form)]

    def how_many(self):
        """The number of places in the set."""
        return far_of(all_ones(self.bits.form))

    def below(self, place):
        """How many places of the set are less than a place."""
        return far_of(ones_under(turns_in(self.bits.form), place_form(place)))

    def kth(self, k):
        """The place of the set that has exactly k lesser ones."""
        rank = number_form(k)
        place = None if is_negative(rank) else place_of_one(turns_in(self.bits.form), rank)
        if place is None:
            raise NoSuch(k)
        return far_of(place)

    def widest(self):
        """The first of the longest ranges with the most places, or None."""
        widest = None
        most = 0
        for start, stop in ranges_in(self.bits.form):
            many = minus(stop, start)
            if compare(many, most) > 0:
                widest = (start, stop)
                most = many
        if widest is None:
            return None
        start, stop = widest
        return far_of(start), far_of(stop)

    def gap(self, size, *, level=0, above=0):
        """The least start from above on, a multiple of 2**level, of a gap of a size."""
        amount, step, first = size_form(size), place_form(level), place_form(above)
        return far_of(gap_from(self.bits.form, amount, step, first))

    def pages(self, level):
        """The Places of all p >> level for the places p of the set."""
        return places_of(pages_of(self.bits.form, place_form(level)))

    def whole_pages(self, level):
        """The Places of all q for which the whole page number q is in the set."""
        return places_of(whole_pages_of(self.bits.form, place_form(level)))

    def __str__(self):
        return str(text_of_ranges(ranges_in(self.bits.form)))

    def __bool__(self):
        return bool(self.bits.form != 0)

    def __contains__(self, x):
        return has_place(self.bits.form, x)

    def __eq__(self, other):
        return isinstance(other, Places) and self.bits == other.bits

    def __le__(self, other):
        if not isinstance(other, Places):
            return NotImplemented
        return is_part(self.bits.form, other.bits.form)

    def __lt__(self, other):
        if not isinstance(other, Places):
            return NotImplemented
        return self.bits != other.bits and is_part(self.bits.form, other.bits.form)

    def __ge__(self, other):
        if not isinstance(other, Places):
            return NotImplemented
        return is_part(other.bits.form, self.bits.form)

    def __gt__(self, other):
        if not isinstance(other, Places):
            return NotImplemented
        return self.bits != other.bits and is_part(other.bits.form, self.bits.form)

    def __or__(self, other):
        if not isinstance(other, Places):
            return NotImplemented
        return places_of(either(self.bits.form, other.bits.form))

    def __and__(self, other):
        if not isinstance(other, Places):
            return NotImplemented
        return places_of(both(self.bits.form, other.bits.form))

    def __sub__(self, other):
        if not isinstance(other, Places):
            return NotImplemented
        return places_of(without(self.bits.form, other.bits.form))

    def __xor__(self, other):
        if not isinstance(other, Places):
            return NotImplemented
        return places_of(differ(self.bits.form, other.bits.form))

    def __lshift__(self, other):
        if not is_number(other):
            return NotImplemented
        return places_of(shifted_up(self.bits.form, amount_form(other)))

    def __rshift__(self, other):
        if not is_number(other):
            return NotImplemented
        return places_of(shifted_down(self.bits.form, amount_form(other)))


def places_of(form):
    """The Places with the ones of a form from 0 on, unless that is too large."""
    return Places(far_of(form))


def size_form(size):
    """The form of any value where a size is expected."""
    form = number_form(size)
    if compare(form, 1) < 0:
        raise InvalidSize(size)
    return form


def has_place(form, value):
    """Whether any value is a place at which a form has a one."""
    if not is_number(value):
        return False
    place = form_in(value)
    return not is_negative(place) and bit_at(form, place) == 1


def is_part(x, y):
    """Whether the ones of a form are ones of another one."""
    return without(x, y) == 0


def without(x, y):
    """The ones of x that are none of y."""
    return both(x, flip(y))


def text_of_ranges(ranges):
    """The text of ranges of forms."""
    if len(ranges) == 0:
        return "none"
    return ", ".join([f"{write_form(start)}:{write_form(stop)}" for start, stop in ranges])
