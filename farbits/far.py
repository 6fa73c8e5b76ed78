"""The numbers that callers compute with, and what is asked of arguments."""

from farbits.errors import InvalidPower, InvalidRange, InvalidTurns, NegativeShift
from farbits.errors import NoPlace, NotANumber, NotPower, TooFar
from farbits.evaluation import evaluated
from farbits.expressions import steps_of
from farbits.limits import judged, levels_in, parts_in
from farbits.products import is_exponent, multiply, powered
from farbits.raw import bit_at, both, differ, either, flip, minus, opposite
from farbits.raw import place_of_power, plus, plus_one, shifted_down, shifted_up
from farbits.texts import write_form
from farbits.turns import compare, form_of_int, form_with, int_of_turns, is_negative
from farbits.turns import turns_in

LONGEST_INT = 4000


class Sound:
    """A form that is not too large: Far takes it without looking at it again."""

    def __init__(self, checked):
        self.checked = checked


class Far:
    """A whole number of any sign, however far beyond writing."""

    def __init__(self, value=0):
        if isinstance(value, Sound):
            self._form = value.checked
        else:
            self._form = form_of_value(value)

    @staticmethod
    def power(p):
        """2**p for a place p."""
        place = place_form(p)
        return far_of(form_with([place, plus_one(place)]))

    @staticmethod
    def run(start, stop):
        """The number with ones at exactly the places of a range."""
        low, high = range_forms(start, stop)
        return far_of(form_with([low, high]) if low != high else 0)

    @classmethod
    def read(cls, text, values=None):
        """The number that an expression means, with numbers for its names."""
        steps = steps_of(text)
        forms = {} if values is None else forms_by_name(values)
        return cls(Sound(judged(evaluated(steps, forms))))

    @property
    def form(self):
        """The form of this number."""
        return self._form

    @property
    def sign(self):
        """-1, 0 or 1, as this number is less than, equal to or greater than 0."""
        return compare(self._form, 0)

    @property
    def size(self):
        """The size, an int."""
        return parts_in(self._form)

    @property
    def height(self):
        """The height, an int."""
        return levels_in(self._form)

    @property
    def length(self):
        """The last turn, or 0 if there is none."""
        turns = turns_in(self._form)
        return Far(Sound(turns[-1] if len(turns) > 0 else 0))

    @property
    def low(self):
        """The first turn, or None if there is none."""
        turns = turns_in(self._form)
        return Far(Sound(turns[0])) if len(turns) > 0 else None

    def turns(self):
        """The list of the turns, ascending."""
        return [Far(Sound(turn)) for turn in turns_in(self._form)]

    def whole(self):
        """The int of the same value, unless it is too long."""
        turns = turns_in(self._form)
        if len(turns) > 0 and compare(turns[-1], LONGEST_INT) > 0:
            raise TooFar(Far(Sound(turns[-1])))
        return int_of_turns(turns)

    def __str__(self):
        return str(write_form(self._form))

    def __bool__(self):
        return bool(self._form != 0)

    def __getitem__(self, at):
        return bit_at(self._form, place_form(at))

    def __iter__(self):
        raise TypeError("a number is not iterated over")

    def __eq__(self, other):
        if not is_number(other):
            return False
        return self._form == form_in(other)

    def __lt__(self, other):
        if not is_number(other):
            return NotImplemented
        return compare(self._form, form_in(other)) < 0

    def __le__(self, other):
        if not is_number(other):
            return NotImplemented
        return compare(self._form, form_in(other)) <= 0

    def __gt__(self, other):
        if not is_number(other):
            return NotImplemented
        return compare(self._form, form_in(other)) > 0

    def __ge__(self, other):
        if not is_number(other):
            return NotImplemented
        return compare(self._form, form_in(other)) >= 0

    def __neg__(self):
        return far_of(opposite(self._form))

    def __pos__(self):
        return Far(Sound(self._form))

    def __invert__(self):
        return far_of(flip(self._form))

    def __abs__(self):
        return far_of(opposite(self._form) if is_negative(self._form) else self._form)

    def __add__(self, other):
        if not is_number(other):
            return NotImplemented
        return far_of(plus(self._form, form_in(other)))

    def __radd__(self, other):
        if not is_number(other):
            return NotImplemented
        return far_of(plus(form_in(other), self._form))

    def __sub__(self, other):
        if not is_number(other):
            return NotImplemented
        return far_of(minus(self._form, form_in(other)))

    def __rsub__(self, other):
        if not is_number(other):
            return NotImplemented
        return far_of(minus(form_in(other), self._form))

    def __mul__(self, other):
        if not is_number(other):
            return NotImplemented
        return Far(Sound(multiply(self._form, form_in(other))))

    def __rmul__(self, other):
        if not is_number(other):
            return NotImplemented
        return Far(Sound(multiply(form_in(other), self._form)))

    def __floordiv__(self, other):
        if not is_number(other):
            return NotImplemented
        return quotient(self, other)

    def __rfloordiv__(self, other):
        if not is_number(other):
            return NotImplemented
        return quotient(other, self)

    def __pow__(self, other):
        if not is_number(other):
            return NotImplemented
        exponent = form_in(other)
        if not is_exponent(self._form, exponent):
            raise InvalidPower(other)
        return Far(Sound(powered(self._form, exponent)))

    def __lshift__(self, other):
        if not is_number(other):
            return NotImplemented
        return far_of(shifted_up(self._form, amount_form(other)))

    def __rlshift__(self, other):
        if not is_number(other):
            return NotImplemented
        return far_of(shifted_up(form_in(other), amount_form(self)))

    def __rshift__(self, other):
        if not is_number(other):
            return NotImplemented
        return far_of(shifted_down(self._form, amount_form(other)))

    def __rrshift__(self, other):
        if not is_number(other):
            return NotImplemented
        return far_of(shifted_down(form_in(other), amount_form(self)))

    def __and__(self, other):
        if not is_number(other):
            return NotImplemented
        return far_of(both(self._form, form_in(other)))

    def __rand__(self, other):
        if not is_number(other):
            return NotImplemented
        return far_of(both(form_in(other), self._form))

    def __or__(self, other):
        if not is_number(other):
            return NotImplemented
        return far_of(either(self._form, form_in(other)))

    def __ror__(self, other):
        if not is_number(other):
            return NotImplemented
        return far_of(either(form_in(other), self._form))

    def __xor__(self, other):
        if not is_number(other):
            return NotImplemented
        return far_of(differ(self._form, form_in(other)))

    def __rxor__(self, other):
        if not is_number(other):
            return NotImplemented
        return far_of(differ(form_in(other), self._form))


def far_of(form):
    """The number with a form, unless that is too large."""
    return Far(Sound(judged(form)))


def form_of_value(value):
    """The form of what Far is made of: a number, or a list or tuple of its turns."""
    if is_number(value):
        return judged(form_in(value))
    if not isinstance(value, (list, tuple)):
        raise NotANumber(value)
    turns = []
    before = -1
    for index, entry in enumerate(value):
        turn = form_of_value(entry)
        if compare(before, turn) >= 0:
            raise InvalidTurns(index)
        turns.append(turn)
        before = turn
    return judged(form_with(turns))


def forms_by_name(values):
    """The forms of a dict of numbers, looked at in the order of their names."""
    return {name: number_form(values[name]) for name in sorted(list(values), key=str)}


def is_number(value):
    """Whether any value is a number."""
    return isinstance(value, Far) or (isinstance(value, int) and not isinstance(value, bool))


def form_in(number):
    """The form of a number."""
    return number.form if isinstance(number, Far) else form_of_int(number)


def number_form(value):
    """The form of any value where a number is expected."""
    if not is_number(value):
        raise NotANumber(value)
    return form_in(value)


def int_or_form(value):
    """Any value where a number is expected: an int as it is, the form of a Far."""
    if not is_number(value):
        raise NotANumber(value)
    return value.form if isinstance(value, Far) else value


def place_form(value):
    """The form of any value where a place is expected."""
    form = number_form(value)
    if is_negative(form):
        raise NoPlace(value)
    return form


def range_forms(start, stop):
    """The forms of any two values where a range is expected."""
    low = number_form(start)
    high = number_form(stop)
    if is_negative(low) or compare(low, high) > 0:
        raise InvalidRange(start, stop)
    return low, high


def amount_form(amount):
    """The form of a number by which an operator shifts."""
    form = form_in(amount)
    if is_negative(form):
        raise NegativeShift(amount)
    return form


def quotient(x, y):
    """x // y for two numbers."""
    place = place_of_power(form_in(y))
    if place is None:
        raise NotPower(y)
    return far_of(shifted_down(form_in(x), place))
