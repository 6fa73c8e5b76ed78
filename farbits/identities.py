"""Claims about linear expressions: whether they hold for all integers."""

from farbits.errors import BadText, TooManyNames
from farbits.expressions import NAME, expression_at, steps_of, token_end
from farbits.linear import weights_of

SIGNS = ("==", "<=", "<", ">=", ">")
MOST_NAMES = 5


def holds(claim, *, from_zero=()):
    """Whether a claim is true for all integers in the place of its names."""
    names, weights, sign = read_claim(claim)
    return refutation(weights, sign, last_rows(names, from_zero)) is None


def counterexample(claim, *, from_zero=()):
    """A dict of integers that makes a claim false, or None."""
    names, weights, sign = read_claim(claim)
    found = refutation(weights, sign, last_rows(names, from_zero))
    if found is None:
        return None
    many, row, last = found
    return {
        names[k]: ((row >> k) & 1) * ((1 << many) - 1) - (((last >> k) & 1) << many)
        for k in range(len(names))
    }


def conjunctions(expression):
    """A linear expression as the tuple of its pairs (names, coefficient)."""
    steps = steps_of(expression)
    names = names_in(steps)
    coefficients = weights_of(steps, names)
    # From the sums over rows to the sums over the rows that are part of a row.
    for k in range(len(names)):
        for row in range(len(coefficients)):
            if (row >> k) & 1:
                coefficients[row] = coefficients[row] - coefficients[row ^ (1 << k)]
    # The conjunction of no names has ones everywhere: it is -1, where 1 is wanted.
    coefficients[0] = -coefficients[0]
    pairs = []
    for chosen in choices(len(names)):
        coefficient = coefficients[sum([1 << at for at in chosen])]
        if coefficient != 0:
            pairs.append((tuple([names[at] for at in chosen]), coefficient))
    return tuple(pairs)


def choices(many):
    """The list of all ascending lists of numbers below many, the shorter ones first."""
    found = [[]]
    # What is found is extended while it grows, one number at the end of each list.
    at = 0
    while at < len(found):
        chosen = found[at]
        first = chosen[-1] + 1 if chosen else 0
        for k in range(first, many):
            found.append([*chosen, k])
        at += 1
    return found


def read_claim(claim):
    """(names, weights, sign): a claim is true if the weighted sum is so beside 0."""
    if not isinstance(claim, str):
        raise BadText(0)
    left, place = expression_at(claim, 0, SIGNS)
    if place == len(claim):
        raise BadText(place)
    behind = token_end(claim, place)
    right, _ = expression_at(claim, behind, ())
    names = names_in(left + right)
    first = weights_of(left, names)
    second = weights_of(right, names)
    sign = claim[place:behind]
    if sign in (">", ">="):
        # Both sides change places: what is left is to be less.
        return names, [second[k] - first[k] for k in range(len(first))], sign.replace(">", "<")
    return names, [first[k] - second[k] for k in range(len(first))], sign


def names_in(steps):
    """The ascending list of the names in steps, unless there are too many."""
    found = {}
    for kind, what, _ in steps:
        if kind == NAME:
            found[what] = True
    if len(found) > MOST_NAMES:
        raise TooManyNames(len(found))
    return sorted([str(name) for name in found])


def last_rows(names, from_zero):
    """The list of the rows that can be repeated from some place on without end."""
    barred = sum([1 << k for k in range(len(names)) if names[k] in from_zero])
    return [row for row in range(1 << len(names)) if row & barred == 0]


def refutation(weights, sign, rows):
    """(many, row, last) with which a weighted sum is not so beside 0, or None.

    The bits of the names are those of row at the places below many, and those of
    last, one of the rows, from there on. The sum is then the weight of row times
    2**many - 1, less the weight of last times 2**many.
    """
    greatest = max([int(weight) for weight in weights])
    top = weights.index(greatest)
    for last in rows:
        if is_refuted(-weights[last], sign):
            return 0, 0, last
    for last in rows:
        if sign == "==":
            for row in range(len(weights)):
                if weights[row] != 0:
                    return 1, row, last
        elif weights[last] < greatest:
            # 2**many is greater than the weight, so one weight more outdoes it.
            return int(greatest).bit_length(), top, last
    return None


def is_refuted(value, sign):
    """Whether an int is not so beside 0 as a sign tells."""
    if sign == "==":
        return value != 0
    return value > 0 if sign == "<=" else value >= 0
