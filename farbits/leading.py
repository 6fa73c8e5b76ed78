"""Maps as ascending rows (start, stop, by) of forms: a range is led by a number.

No two rows of a map share a place, and rows that touch lead by different numbers.
Nothing in this file judges how large a number is.
"""

from farbits.raw import both, flip, minus, opposite, plus
from farbits.spans import form_of_ranges, greater, in_order, lesser, ranges_in
from farbits.spans import rows_before, rows_within
from farbits.texts import write_form
from farbits.turns import compare, is_negative


def joined_rows(rows):
    """The rows of a map for ascending rows of which some may belong together."""
    joined = []
    for start, stop, by in rows:
        if joined and joined[-1][1] == start and joined[-1][2] == by:
            joined[-1] = (joined[-1][0], stop, by)
        else:
            joined.append((start, stop, by))
    return joined


def domain_of(rows):
    """The form with ones at the places that are led."""
    return form_of_ranges([(start, stop) for start, stop, _ in rows])


def led_ranges(rows):
    """The ranges to which rows lead, ascending by their starts."""
    return in_order([(plus(start, by), plus(stop, by)) for start, stop, by in rows])


def image_of(rows):
    """The form with ones at the places that are led to."""
    return form_of_ranges(led_ranges(rows))


def place_led(rows, place):
    """Where a place is led, or None."""
    at = rows_before(rows, place)
    if at == len(rows) or compare(rows[at][0], place) > 0:
        return None
    return plus(place, rows[at][2])


def first_twice(rows):
    """The least place that is led to twice, or None."""
    behind = 0
    for start, stop in led_ranges(rows):
        # Where two ranges begin to overlap, the later one of them starts.
        if compare(start, behind) < 0:
            return start
        behind = greater(behind, stop)
    return None


def is_rising(rows):
    """Whether lesser places are led to lesser places."""
    for k in range(1, len(rows)):
        _, behind, before = rows[k - 1]
        start, _, by = rows[k]
        if compare(plus(behind, before), plus(start, by)) > 0:
            return False
    return True


def rows_at(rows, places):
    """The rows for those places alone that are ones of a form from 0 on."""
    found = []
    for first, behind in ranges_in(places):
        for start, stop, by in rows_within(rows, first, behind):
            found.append((greater(start, first), lesser(stop, behind), by))
    return found


def rows_outside(rows, places):
    """The rows for those places alone that are no ones of a form from 0 on."""
    return rows_at(rows, both(domain_of(rows), flip(places)))


def rows_with(rows, later):
    """The rows of a map that leads as the later rows do, and elsewhere as the rows do."""
    others = rows_outside(rows, domain_of(later))
    return joined_rows(in_order([*others, *later]))


def rows_through(first, second):
    """The rows of the map that leads by the first rows and then by the second ones."""
    found = []
    for start, stop, by in first:
        led, behind = plus(start, by), plus(stop, by)
        for low, high, more in rows_within(second, led, behind):
            begin = minus(greater(low, led), by)
            end = minus(lesser(high, behind), by)
            found.append((begin, end, plus(by, more)))
    return joined_rows(found)


def rows_back(rows):
    """The rows of the map that leads each place back."""
    return in_order([(plus(start, by), plus(stop, by), opposite(by)) for start, stop, by in rows])


def text_of_row(row):
    """The text of a row."""
    start, stop, by = row
    sign = "-" if is_negative(by) else "+"
    text = write_form(opposite(by) if is_negative(by) else by)
    if "+" in text or "-" in text:
        text = f"({text})"
    return f"{write_form(start)}:{write_form(stop)}{sign}{text}"
