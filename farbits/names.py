"""What is a name."""

LETTERS = "abcdefghijklmnopqrstuvwxyz"
MOST_LETTERS = 8
NO_NAMES = ("repeat", "if", "else", "end")


def is_name(value):
    """Whether any value is a name."""
    if not isinstance(value, str) or not 1 <= len(value) <= MOST_LETTERS:
        return False
    return value not in NO_NAMES and row_end(value, 0, LETTERS) == len(value)


def row_end(text, start, letters):
    """Where the row of such characters ends that begins at a place of a text."""
    end = start
    while end < len(text) and text[end] in letters:
        end += 1
    return end


def row_named(rows, name):
    """The row (start, stop, name, ..) that any value is the name of, or None."""
    if is_name(name):
        for row in rows:
            if row[2] == name:
                return row
    return None
