"""Folded blocks: which ones are, and what many rounds of them make of a name.

A gain is what a block makes of a name: (SUMS, amount) adds an amount, (SHIFTS, amount)
shifts by it, and (BITS, mask, toggled) makes (x & mask) ^ toggled of x.
"""

from farbits.expressions import NAME
from farbits.raw import both, differ, flip, minus, opposite, plus, shifted_down, shifted_up
from farbits.raw import times
from farbits.trees import Assignment, Repeat, statements_within
from farbits.turns import turns_in

SUMS = "sums"
SHIFTS = "shifts"
BITS = "bits"
GROUPS = {"+": "sums", "-": "sums", "<<": "shifts", "&": "bits", "|": "bits", "^": "bits"}


def is_foldable(block):
    """Whether the repeat of a block is folded."""
    for statement in block:
        if isinstance(statement, Assignment):
            if statement.operator not in GROUPS:
                return False
        elif not isinstance(statement, Repeat) or not statement.is_folded:
            return False
    found = statements_within(block)
    steps = [statement for statement in found if isinstance(statement, Assignment)]
    groups = groups_of(steps)
    if groups is None:
        return False
    bound = [statement for statement in found if has_name_of(statement.steps, groups)]
    return not bound or (len(steps) == len(found) and are_sums_of_sums(bound, groups))


def groups_of(steps):
    """The dict of the groups of all names, or None if a name has two."""
    groups = {}
    for step in steps:
        group = GROUPS[step.operator]
        if groups.setdefault(step.name, group) != group:
            return None
    return groups


def has_name_of(steps, names):
    """Whether an expression has one of the names."""
    return any([kind == NAME and what in names for kind, what, _ in steps])


def single_name(steps):
    """The name that an expression consists of, or None."""
    kind, what, _ = steps[0]
    return what if len(steps) == 1 and kind == NAME else None


def are_sums_of_sums(bound, groups):
    """Whether steps add names to other ones, to which is added only what stays the same.

    The steps are all those of a block whose expressions have names that it assigns.
    """
    changing = {step.name: True for step in bound}
    for step in bound:
        name = single_name(step.steps)
        if name is None or name in changing:
            return False
        if groups[step.name] != SUMS or groups[name] != SUMS:
            return False
    return True


def gain_of(operator, amount):
    """What a step makes of its name."""
    group = GROUPS[operator]
    if group == SHIFTS:
        return (SHIFTS, amount)
    if group == SUMS:
        return (SUMS, opposite(amount) if operator == "-" else amount)
    if operator == "&":
        return (BITS, amount, 0)
    if operator == "|":
        return (BITS, flip(amount), amount)
    return (BITS, -1, amount)


def gain_then(first, second):
    """What two gains of a name make, one behind the other; the first may be None."""
    if first is None:
        return second
    if first[0] != BITS:
        return (first[0], plus(first[1], second[1]))
    _, mask, toggled = second
    return (BITS, both(first[1], mask), differ(both(first[2], mask), toggled))


def gain_repeated(gain, count):
    """What a gain makes, done so many times, at least once."""
    if gain[0] != BITS:
        return (gain[0], times(gain[1], count))
    _, mask, toggled = gain
    if is_odd(count):
        return gain
    # Where the mask has ones each round toggles, and each two rounds cancel out.
    return (BITS, mask, both(toggled, flip(mask)))


def is_odd(x):
    """Whether a form is that of an odd integer."""
    turns = turns_in(x)
    return len(turns) > 0 and turns[0] == 0


def applied(gain, x):
    """What a gain makes of a number."""
    if gain[0] == SUMS:
        return plus(x, gain[1])
    if gain[0] == SHIFTS:
        return shifted_up(x, gain[1])
    return differ(both(x, gain[1]), gain[2])


def pairs_below(count):
    """How many pairs of rounds there are."""
    return shifted_down(times(count, minus(count, 1)), 1)
