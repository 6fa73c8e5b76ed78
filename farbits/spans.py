"""Ranges of places as pairs of forms: the ones of numbers from 0 on, and the gaps.

Nothing in this file judges how large a number is.
"""

from farbits.raw import minus, opposite, plus, plus_one, shifted_down, shifted_up
from farbits.turns import compare, form_with, turns_in, turns_up_to


def lesser(x, y):
    """The lesser one of two forms."""
    return x if compare(x, y) <= 0 else y


def greater(x, y):
    """The greater one of two forms."""
    return x if compare(x, y) >= 0 else y


def rounded_down(x, level):
    """The greatest multiple of 2**level that is not greater than x."""
    return x if level == 0 else shifted_up(shifted_down(x, level), level)


def rounded_up(x, level):
    """The least multiple of 2**level that is not less than x."""
    return x if level == 0 else opposite(rounded_down(opposite(x), level))


def ranges_in(x):
    """The list of the longest ranges (start, stop) of ones, ascending."""
    turns = turns_in(x)
    return [(turns[k - 1], turns[k]) for k in range(1, len(turns), 2)]


def form_of_ranges(ranges):
    """The form with ones in ranges that ascend by their starts."""
    turns = []
    for start, stop in ranges:
        if turns and compare(start, turns[-1]) <= 0:
            turns[-1] = greater(turns[-1], stop)
        elif start != stop:
            turns.append(start)
            turns.append(stop)
    return form_with(turns)


def in_order(rows):
    """The list of tuples by their first entries, which are forms, ascending."""
    level = [[row] for row in rows]
    while len(level) > 1:
        merged = [merged_rows(level[k - 1], level[k]) for k in range(1, len(level), 2)]
        if len(level) & 1:
            merged.append(level[-1])
        level = merged
    return level[0] if level else []


def merged_rows(first, second):
    """Two ascending lists as one; of equal entries those of the first one lead."""
    merged = []
    at = 0
    for row in first:
        while at < len(second) and compare(second[at][0], row[0]) < 0:
            merged.append(second[at])
            at += 1
        merged.append(row)
    merged.extend(second[at:])
    return merged


def rows_before(rows, place):
    """How many of ascending rows (start, stop, ..) stop at a place or below it."""
    low = 0
    high = len(rows)
    while low < high:
        middle = (low + high) // 2
        if compare(rows[middle][1], place) <= 0:
            low = middle + 1
        else:
            high = middle
    return low


def rows_within(rows, start, stop):
    """The list of the rows (first, behind, ..) that share a place with a range.

    The rows ascend, and no two of them share a place.
    """
    within = []
    if start == stop:
        return within
    for row in rows[rows_before(rows, start):]:
        if compare(row[0], stop) >= 0:
            break
        within.append(row)
    return within


def gap_from(taken, amount, level, above):
    """The least multiple of 2**level from above on with so many zeros from there on."""
    turns = turns_in(taken)
    start = rounded_up(above, level)
    at = turns_up_to(turns, start)
    while at < len(turns):
        # At an odd number of turns start lies within ones, which end at the next turn.
        if at & 1 == 0:
            if compare(plus(start, amount), turns[at]) <= 0:
                return start
            at += 1
        start = rounded_up(turns[at], level)
        at = turns_up_to(turns, start)
    return start


def widest_gap(taken, limit, level, above):
    """The most zeros in a row below a limit that begin at such a multiple."""
    most = 0
    start = rounded_up(above, level)
    turns = turns_in(taken)
    while compare(start, limit) < 0:
        at = turns_up_to(turns, start)
        if at & 1 == 0:
            stop = lesser(turns[at], limit) if at < len(turns) else limit
            most = greater(most, minus(stop, start))
            at += 1
        if at >= len(turns):
            break
        start = rounded_up(turns[at], level)
    return most


def pages_of(x, level):
    """The form with ones at all p >> level for the ones p of a number from 0 on."""
    pages = []
    for start, stop in ranges_in(x):
        last = shifted_down(minus(stop, 1), level)
        pages.append((shifted_down(start, level), plus_one(last)))
    return form_of_ranges(pages)


def whole_pages_of(x, level):
    """The form with ones at all q for which all of the page number q are ones."""
    pages = []
    for start, stop in ranges_in(x):
        first = shifted_down(rounded_up(start, level), level)
        behind = shifted_down(stop, level)
        if compare(first, behind) < 0:
            pages.append((first, behind))
    return form_of_ranges(pages)
