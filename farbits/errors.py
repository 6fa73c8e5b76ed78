"""The errors of the package, each directly below FarError.

The messages show ints only: the other fields may be values of any kind and length.
"""


class FarError(ValueError):
    """What all errors of this package have in common."""


class NotANumber(FarError):
    """A value that is neither a Far nor an integer."""

    def __init__(self, value):
        super().__init__("not a number")
        self.value = value


class NoPlace(FarError):
    """A number below 0 where a place is expected."""

    def __init__(self, place):
        super().__init__("a place is not below 0")
        self.place = place


class InvalidRange(FarError):
    """Two numbers that are no range of places."""

    def __init__(self, start, stop):
        super().__init__("not a range")
        self.start = start
        self.stop = stop


class InvalidTurns(FarError):
    """A turn that is negative or not greater than the one before it."""

    def __init__(self, index):
        super().__init__(f"turn {index} is out of order")
        self.index = index


class TooLarge(FarError):
    """A number beyond the limits of size and height."""

    def __init__(self, parts, levels):
        super().__init__(f"too large: size {parts}, height {levels}")
        self.parts = parts
        self.levels = levels


class TooManyTerms(FarError):
    """A product, or a count, of too many turns."""

    def __init__(self, terms):
        super().__init__(f"too many terms: {terms}")
        self.terms = terms


class InvalidPower(FarError):
    """An exponent that power does not take."""

    def __init__(self, exponent):
        super().__init__("not an exponent")
        self.exponent = exponent


class NegativeShift(FarError):
    """A shift by a negative number."""

    def __init__(self, amount):
        super().__init__("a shift by less than 0")
        self.amount = amount


class NotPower(FarError):
    """A divisor that is no power of two."""

    def __init__(self, value):
        super().__init__("not a power of two")
        self.value = value


class TooFar(FarError):
    """A number with too many bits for an int."""

    def __init__(self, bits):
        super().__init__("too far for an int")
        self.bits = bits


class BadText(FarError):
    """A text that cannot go on at a place."""

    def __init__(self, place):
        super().__init__(f"no expression goes on at {place}")
        self.place = place


class UnknownName(FarError):
    """A name that stands for nothing."""

    def __init__(self, name):
        super().__init__("unknown name")
        self.name = name


class NoSuch(FarError):
    """A one, zero or place with a rank that there is not."""

    def __init__(self, rank):
        super().__init__("no such rank")
        self.rank = rank


class Endless(FarError):
    """A number that makes a count endless."""

    def __init__(self, value):
        super().__init__("an endless count")
        self.value = value


class InvalidCount(FarError):
    """A count that is not possible."""

    def __init__(self, count):
        super().__init__("not a count")
        self.count = count


class InvalidTerm(FarError):
    """An entry that is no term of a sign and a place."""

    def __init__(self, index):
        super().__init__(f"entry {index} is no term")
        self.index = index


class NotShort(FarError):
    """A modulus that is not short."""

    def __init__(self, modulus):
        super().__init__("not a short modulus")
        self.modulus = modulus


class InvalidLevels(FarError):
    """A value that is no tuple of levels."""

    def __init__(self, value):
        super().__init__("not levels")
        self.value = value


class NoBlock(FarError):
    """A block that there is not."""

    def __init__(self, value):
        super().__init__("no such block")
        self.value = value


class TooManyNames(FarError):
    """An expression or a claim with too many names."""

    def __init__(self, count):
        super().__init__(f"too many names: {count}")
        self.count = count


class NotLinear(FarError):
    """An operator whose expression is not linear."""

    def __init__(self, place):
        super().__init__(f"not linear at {place}")
        self.place = place


class InvalidSet(FarError):
    """A negative number, whose places are endless."""

    def __init__(self, value):
        super().__init__("not a finite set")
        self.value = value


class InvalidSize(FarError):
    """A size below 1."""

    def __init__(self, amount):
        super().__init__("a size below 1")
        self.amount = amount


class TooManyPieces(FarError):
    """A map of too many pieces."""

    def __init__(self, count):
        super().__init__(f"too many pieces: {count}")
        self.count = count


class Overlap(FarError):
    """A piece that leads a place that an earlier one leads."""

    def __init__(self, index):
        super().__init__(f"piece {index} overlaps an earlier one")
        self.index = index


class NotMapped(FarError):
    """A place outside the domain of a map."""

    def __init__(self, place):
        super().__init__("not in the domain")
        self.place = place


class NotOneToOne(FarError):
    """A place to which a map leads twice."""

    def __init__(self, place):
        super().__init__("led to twice")
        self.place = place


class InvalidName(FarError):
    """A value that is no name."""

    def __init__(self, name):
        super().__init__("not a name")
        self.name = name


class NameTaken(FarError):
    """A name that is in use."""

    def __init__(self, name):
        super().__init__("the name is taken")
        self.name = name


class TooManyRooms(FarError):
    """A room beyond the most that a book has."""

    def __init__(self, name):
        super().__init__("too many rooms")
        self.name = name


class NoRoom(FarError):
    """A room for which there is no space."""

    def __init__(self, name, amount):
        super().__init__("no room of that size")
        self.name = name
        self.amount = amount


class Outside(FarError):
    """An address that is not below the limit."""

    def __init__(self, address):
        super().__init__("outside of the limit")
        self.address = address


class RoomThere(FarError):
    """A room where addresses were to be kept."""

    def __init__(self, name):
        super().__init__("a room is there")
        self.name = name


class NothingToUndo(FarError):
    """An undo with nothing left to take back."""

    def __init__(self):
        super().__init__("nothing to undo")


class NoBuddy(FarError):
    """No free block of the order or a greater one."""

    def __init__(self, order, most):
        super().__init__("no free block of that order")
        self.order = order
        self.most = most


class Guarded(FarError):
    """A deed that a guard forbids."""

    def __init__(self, order, many):
        super().__init__("guarded")
        self.order = order
        self.many = many


class BadLine(FarError):
    """A program that cannot go on in a line at a place."""

    def __init__(self, line, place):
        super().__init__(f"line {line} cannot go on at {place}")
        self.line = line
        self.place = place


class Stopped(FarError):
    """A program that an error stopped in a line."""

    def __init__(self, line):
        super().__init__(f"stopped in line {line}")
        self.line = line


class TooLong(FarError):
    """A program that does too many statements."""

    def __init__(self):
        super().__init__("too many statements")


class InvalidLine(FarError):
    """A value that is no line of a desk."""

    def __init__(self, line):
        super().__init__("not a line")
        self.line = line


class LineFailed(FarError):
    """A line that failed among several ones."""

    def __init__(self, index):
        super().__init__(f"line number {index} failed")
        self.index = index
