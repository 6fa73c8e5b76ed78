"""Turns of integers, and how forms are made of them, taken apart and ordered.

A sequence of turns is a list or a tuple of the forms of places, ascending and
without duplicates. Nothing in this file judges how large a number is.
"""

LAST_PLAIN_TURN = 64
PLAIN_STOP = 2 ** 64
FEW_TURNS = 8
MANY_TURNS = 16
NEAR_PLACE = 1000
FAR_PLACE = 5000
BITS_FOR_A_TURN = 64
BITS = "01"


def is_plain(value):
    """Whether an int is its own form."""
    return -PLAIN_STOP <= value < PLAIN_STOP


def is_near(place):
    """Whether a place can be the greatest turn of a plain integer."""
    return isinstance(place, int) and place <= LAST_PLAIN_TURN


def turns_of_int(value):
    """The turns of an int, as a new list."""
    changes = value ^ (value << 1)
    turns = []
    while changes:
        if len(turns) == FEW_TURNS:
            turns.extend(ones_of_text(changes))
            break
        lowest = changes & -changes
        turns.append(lowest.bit_length() - 1)
        changes = changes ^ lowest
    return turns


def ones_of_text(value):
    """The places of the ones of an int from 0 on, as a new list."""
    # The zeros of its text are counted row by row: that is faster than to take the
    # ones out of a long int one by one.
    text = f"{value:b}"
    places = []
    place = -1
    for zeros in text[::-1].split("1"):
        place = place + len(zeros) + 1
        places.append(place)
    # What stands behind the last one ends no row.
    places.pop()
    return places


def int_of_turns(turns):
    """The int with these turns, which are near."""
    if len(turns) > MANY_TURNS:
        return int_of_rows(turns)
    value = 0
    for turn in turns:
        value = value ^ (-1 << turn)
    return value


def int_of_rows(turns):
    """The int with many turns, from its rows of equal bits."""
    rows = [BITS[k & 1] * (turns[k] - turns[k - 1]) for k in range(len(turns) - 1, 0, -1)]
    rows.append(BITS[0] * turns[0])
    value = int("".join(rows), 2)
    return value - (1 << turns[-1]) if len(turns) & 1 else value


def near_int(x):
    """The int with a form, if its last turn is near, else None."""
    if isinstance(x, int):
        return x
    last = x[-1]
    return int_of_turns(x) if isinstance(last, int) and last <= FAR_PLACE else None


def int_of_form(x):
    """The int with a form whose turns are near."""
    return x if isinstance(x, int) else int_of_turns(x)


def are_near(x, y):
    """Whether two forms, not both of them ints, are computed with faster as ints."""
    if isinstance(x, int):
        return is_short(y)
    if isinstance(y, int):
        return is_short(x)
    first, second = x[-1], y[-1]
    if not isinstance(first, int) or not isinstance(second, int):
        return False
    many = len(x) + len(y)
    # Few turns are put into many faster than many are taken apart.
    if many > 2 * MANY_TURNS and (len(x) < MANY_TURNS or len(y) < MANY_TURNS):
        return False
    most = NEAR_PLACE + BITS_FOR_A_TURN * many
    return first <= most and second <= most


def is_short(x):
    """Whether a tuple has few turns, which are near."""
    return len(x) <= MANY_TURNS and isinstance(x[-1], int) and x[-1] <= NEAR_PLACE


def form_of_int(value):
    """The form of an int of any length."""
    if is_plain(value):
        return value
    return tuple(turns_of_int(value))


def form_with(turns):
    """The form of the integer with these turns."""
    if not turns or is_near(turns[-1]):
        return int_of_turns(turns)
    return tuple(turns)


def turns_in(x):
    """The turns of a form, to be read only."""
    if isinstance(x, int):
        return turns_of_int(x)
    return x


def is_negative(x):
    """Whether the integer of a form is below 0."""
    if isinstance(x, int):
        return x < 0
    return len(x) & 1 == 1


def compare(x, y):
    """-1, 0 or 1, as the form x means less than, as much as, or more than y."""
    if isinstance(x, int) and isinstance(y, int):
        if x == y:
            return 0
        return -1 if x < y else 1
    below = is_negative(x)
    if below != is_negative(y):
        return -1 if below else 1
    # Of two integers with one sign the plain one is nearer to 0.
    if isinstance(x, int):
        return 1 if below else -1
    if isinstance(y, int):
        return -1 if below else 1
    return compare_far(x, y)


def compare_far(x, y):
    """compare for two tuples with the same sign."""
    most = min(len(x), len(y))
    same = 0
    while same < most and x[-1 - same] == y[-1 - same]:
        same += 1
        if same == FEW_TURNS:
            same = common_tail(x, y, most)
            break
    if same < most:
        later = compare(x[-1 - same], y[-1 - same])
    elif len(x) == len(y):
        return 0
    else:
        later = -1 if same == len(x) else 1
    # Above the first turn that differs both have one bit, and just below it
    # the one with the later turn has the other bit.
    return -later if (len(x) - same) & 1 else later


def common_tail(x, y, most):
    """How many turns, from the last one on, two tuples have in common: more than a few."""
    # One by one is slow for long tails: slices of growing length are compared.
    same = FEW_TURNS
    step = same
    while step:
        more = same + step
        if more <= most and x[len(x) - more:len(x) - same] == y[len(y) - more:len(y) - same]:
            same = more
            step = step * 2
        else:
            step = step // 2
    return same


def is_less(x, y):
    """Whether a place is less than another one."""
    if isinstance(x, int):
        return not isinstance(y, int) or x < y
    if isinstance(y, int):
        return False
    return compare_far(x, y) < 0


def turns_before(turns, place, start):
    """How many turns are less than a place; the first `start` ones are known to be."""
    low = start
    high = start
    step = 1
    # Steps of growing length: the place is often near the start.
    while high < len(turns) and is_less(turns[high], place):
        low = high + 1
        high = high + step
        step = step * 2
    return turns_between(turns, place, low, min(high, len(turns)))


def turns_between(turns, place, low, high):
    """How many turns are less than a place; that is a number from low to high."""
    while low < high:
        middle = (low + high) // 2
        if is_less(turns[middle], place):
            low = middle + 1
        else:
            high = middle
    return low


def turns_up_to(turns, place, start=0):
    """How many turns are not greater than a place; the first ones are known to be."""
    if start == 0:
        many = turns_between(turns, place, 0, len(turns))
    else:
        many = turns_before(turns, place, start)
    if many < len(turns) and turns[many] == place:
        return many + 1
    return many


def shorter_first(x, y):
    """Two sequences as a pair, the one with fewer turns first."""
    if len(x) <= len(y):
        return x, y
    return y, x


def merged_turns(x, y):
    """The places that are a turn of exactly one of two sequences, as a new list."""
    few, many = shorter_first(x, y)
    merged = []
    start = 0
    for turn in few:
        at = turns_before(many, turn, start)
        merged.extend(many[start:at])
        start = at
        if at < len(many) and many[at] == turn:
            start = at + 1
        else:
            merged.append(turn)
    merged.extend(many[start:])
    return merged


def flipped_turns(turns):
    """The turns of ~x for those of x, as a new list."""
    if len(turns) > 0 and turns[0] == 0:
        return list(turns[1:])
    return [0, *turns]


def common_turns(x, y):
    """The turns of x & y for those of x and of y, as a new list."""
    few, many = shorter_first(x, y)
    common = []
    behind = 0
    # The ones of the shorter sequence stand from every second turn to the next.
    for k in range(0, len(few), 2):
        at = turns_up_to(many, few[k], behind)
        if at & 1:
            common.append(few[k])
        if k + 1 == len(few):
            common.extend(many[at:])
        else:
            behind = turns_before(many, few[k + 1], at)
            common.extend(many[at:behind])
            if behind & 1:
                common.append(few[k + 1])
    return common
