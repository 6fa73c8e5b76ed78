"""What is a form, how large it is, and what is too large."""

from farbits.errors import TooLarge
from farbits.turns import compare, is_near, is_plain

MOST_PARTS = 2000
MOST_LEVELS = 6

# Beyond every value that is passed.
ANY_PARTS = 10 ** 30
ANY_LEVELS = 100


def parts_in(x):
    """The size of a form."""
    if isinstance(x, int):
        return 1
    return 1 + sum([1 if isinstance(turn, int) else parts_in(turn) for turn in x])


def levels_in(x):
    """The height of a form."""
    levels = 0
    # A greater place is never of a lesser height, so the last turn decides.
    while not isinstance(x, int):
        x = x[-1]
        levels += 1
    return levels


def judged(x):
    """The form x itself, unless it is too large."""
    if not isinstance(x, int):
        parts = parts_in(x)
        levels = levels_in(x)
        if parts > MOST_PARTS or levels > MOST_LEVELS:
            raise TooLarge(parts, levels)
    return x


def sound_parts(value, most_parts, most_levels):
    """The size of any value that is a form within the limits, 0 for any other."""
    if isinstance(value, bool):
        return 0
    if isinstance(value, int):
        return 1 if is_plain(value) else 0
    if not isinstance(value, tuple) or most_levels == 0:
        return 0
    parts = 1
    before = -1
    for entry in value:
        # What is left is handed down, so that the walk ends soon in a value
        # that holds one tuple again and again.
        more = sound_parts(entry, most_parts - parts, most_levels - 1)
        if more == 0 or parts + more > most_parts or compare(before, entry) >= 0:
            return 0
        parts = parts + more
        before = entry
    return 0 if is_near(before) else parts


def is_any_form(value):
    """Whether any value is a form, too large or not."""
    return sound_parts(value, ANY_PARTS, ANY_LEVELS) > 0
