"""Texts of numbers: reading expressions, and the one text that a number has."""

from farbits.evaluation import evaluated
from farbits.expressions import steps_of
from farbits.limits import judged
from farbits.raw import opposite, plus_one
from farbits.turns import int_of_turns, is_near, is_negative


def read_form(text, values=None):
    """The form of the number that an expression means."""
    steps = steps_of(text)
    return judged(evaluated(steps, {} if values is None else values))


def write_form(x):
    """The one text of a number."""
    if isinstance(x, int):
        return str(x)
    if not is_negative(x):
        return text_of_runs(x)
    magnitude = opposite(x)
    text = text_of_runs(magnitude)
    return f"-{text}" if is_single_place(magnitude) else f"-({text})"


def text_of_runs(x):
    """The text of a number from 0 on that is not plain."""
    parts = []
    for k in range(len(x) - 1, 0, -2):
        low, high = x[k - 1], x[k]
        if is_near(high):
            # The runs from here on are near, all of them.
            parts.append(str(int_of_turns(x[:k + 1])))
            break
        parts.append(text_of_run(low, high))
    return "+".join(parts)


def text_of_run(low, high):
    """The text of the ones from low to high - 1."""
    if plus_one(low) == high:
        return text_of_power(low)
    return f"{text_of_power(high)}-{text_of_power(low)}"


def text_of_power(place):
    """The text of 2**place."""
    text = write_form(place)
    return f"2**{text}" if isinstance(place, int) else f"2**({text})"


def is_single_place(x):
    """Whether a number from 0 on that is not plain has a single one."""
    return len(x) == 2 and plus_one(x[0]) == x[1]
