"""Desks: lines of text are answered with texts."""

from farbits.books import Book
from farbits.counting import kth_one, ones_below
from farbits.errors import FarError, InvalidLine, LineFailed
from farbits.far import Far
from farbits.rests import rest

MOST_CHARACTERS = 4000
FIRST_CHARACTER = " "
LAST_CHARACTER = "~"

# For each command: how many arguments it has at least and at most, and whether the
# first one is a name. All other arguments are numbers.
COMMANDS = {
    "value": (1, 1, False), "compare": (2, 2, False), "bit": (2, 2, False),
    "below": (2, 2, False), "kth": (2, 2, False), "rest": (2, 2, False),
    "take": (2, 4, True), "move": (1, 3, True), "give": (1, 1, True),
    "resize": (2, 2, True), "keep": (2, 2, False), "unkeep": (2, 2, False),
    "undo": (0, 0, False), "pack": (0, 1, False), "who": (1, 1, False),
    "where": (1, 1, True), "rooms": (0, 0, False), "unused": (0, 0, False),
    "taken": (0, 0, False), "kept": (0, 0, False), "best": (0, 2, False),
}


class Desk:
    """A book and questions about numbers, by lines of text."""

    def __init__(self, limit):
        self.book = Book(limit)

    def answer(self, line):
        """The answer to any value as a line."""
        command, arguments = parts_of(line)
        read = []
        for argument in arguments:
            if COMMANDS[command][2] and len(read) == 0:
                read.append(argument)
            else:
                read.append(Far.read(argument))
        if command in ("value", "compare", "bit", "below", "kth", "rest"):
            return answer_of_numbers(command, read)
        if command in ("take", "move", "give", "resize", "keep", "unkeep", "undo", "pack"):
            return answer_of_deed(self.book, command, read)
        return answer_of_book(self.book, command, read)

    def answers(self, lines):
        """The list of the answers to a list of any values, one after the other."""
        return self.book.attempt(lambda book: self._answered(lines))

    def _answered(self, lines):
        """The list of the answers."""
        told = []
        for index, line in enumerate(lines):
            try:
                told.append(self.answer(line))
            except FarError as e:
                raise LineFailed(index) from e
        return told


def parts_of(line):
    """(command, arguments) of any value that is a line."""
    if not isinstance(line, str) or len(line) > MOST_CHARACTERS:
        raise InvalidLine(line)
    for character in line:
        if not FIRST_CHARACTER <= character <= LAST_CHARACTER:
            raise InvalidLine(line)
    word, colon, rest_of_line = line.partition(":")
    command = word.strip(" ")
    arguments = []
    if colon != "":
        arguments = [argument.strip(" ") for argument in rest_of_line.split(",")]
    if command not in COMMANDS or "" in arguments:
        raise InvalidLine(line)
    fewest, most, _ = COMMANDS[command]
    if not fewest <= len(arguments) <= most:
        raise InvalidLine(line)
    return command, arguments


def answer_of_numbers(command, read):
    """The answer to a question about numbers."""
    x = read[0]
    if command == "value":
        return str(x)
    y = read[1]
    if command == "compare":
        if x == y:
            return "equal"
        return "less" if x < y else "greater"
    if command == "bit":
        return str(x[y])
    if command == "below":
        return str(ones_below(x, y))
    if command == "kth":
        return str(kth_one(x, y))
    return str(rest(x, y))


def answer_of_deed(book, command, read):
    """The answer to a deed, which is done."""
    if command == "take":
        level, above = read[2] if len(read) > 2 else 0, read[3] if len(read) > 3 else 0
        return str(book.take(read[0], read[1], level=level, above=above))
    if command == "move":
        level, above = read[1] if len(read) > 1 else 0, read[2] if len(read) > 2 else 0
        return str(book.move(read[0], level=level, above=above))
    if command == "pack":
        return str(book.pack(level=read[0] if len(read) > 0 else 0))
    if command == "give":
        book.give(read[0])
    elif command == "resize":
        book.resize(read[0], read[1])
    elif command == "keep":
        book.keep(read[0], read[1])
    elif command == "unkeep":
        book.unkeep(read[0], read[1])
    else:
        book.undo()
    return "ok"


def answer_of_book(book, command, read):
    """The answer to a question about the book."""
    if command == "who":
        name = book.who(read[0])
        return "nobody" if name is None else name
    if command == "where":
        start, stop = book[read[0]]
        return f"{start}:{stop}"
    if command == "rooms":
        return text_of_rooms(book.rooms())
    if command == "unused":
        return str(book.unused())
    if command == "taken":
        return str(book.taken())
    if command == "kept":
        return str(book.kept())
    level, above = read[0] if len(read) > 0 else 0, read[1] if len(read) > 1 else 0
    return str(book.best(level=level, above=above))


def text_of_rooms(rooms):
    """The text of rooms (name, start, stop)."""
    if len(rooms) == 0:
        return "none"
    return ", ".join([f"{name} {start}:{stop}" for name, start, stop in rooms])
