"""A second, slow way to compute with forms, for comparison in the tests.

Nothing here uses the package. Three views of an integer are used:
- an int of Python, for numbers that can be written;
- a model: an int whose places stand for far places, a cluster of STEP places
  for each of FAR_BASES; clusters are so far apart that sums and bits of the
  model and of the far number go the same way;
- the rest by a small modulus, for numbers of any kind.
"""

import random

STEP = 1000
CLUSTERS = 5


def bit(value, place):
    return (value >> place) & 1


def int_turns(value):
    """The turns of an int by the definition."""
    places = range(value.bit_length() + 1)
    return [p for p in places if bit(value, p) != (bit(value, p - 1) if p else 0)]


def form(value):
    """The form of an int by the definition."""
    if -2**64 <= value < 2**64:
        return value
    return tuple(form(turn) for turn in int_turns(value))


def value_of(x):
    """The int with a form, if its turns can be written."""
    if isinstance(x, int):
        return x
    value = 0
    sign = -1
    for turn in x:
        value += sign << value_of(turn)
        sign = -sign
    return value


def far_place(cluster, offset):
    """The form of place number `offset` of a cluster.

    Cluster 0 begins at 0, 1 at 2**70, 2 at 2**(2**70), and so on.
    """
    if cluster == 0:
        return form(offset)
    if cluster == 1:
        return form(2**70 + offset)
    low = tuple(form(turn) for turn in int_turns(offset))
    return low + (far_place(cluster - 1, 0), far_place(cluster - 1, 1))


def far_form(model):
    """The form of the far number that a model stands for."""
    turns = int_turns(model)
    if not turns or turns[-1] <= 64:
        return model
    return tuple(far_place(turn // STEP, turn % STEP) for turn in turns)


def random_model(source, bits=300, clusters=CLUSTERS):
    """A model with random bits in some clusters, of any sign."""
    model = 0
    for cluster in range(clusters):
        if source.random() < 0.6:
            many = source.choice([1, bits // 3 + 1, bits])
            part = random_int(source, many)
            model += part << (cluster * STEP)
    return model


def random_int(source, bits):
    """An int with long runs of equal bits as often as with mixed ones."""
    kind = source.randrange(4)
    value = source.getrandbits(bits)
    if kind == 0:
        value &= source.getrandbits(bits) & source.getrandbits(bits)
    elif kind == 1:
        value = (1 << source.randrange(bits + 1)) - (1 << source.randrange(bits + 1))
    elif kind == 2:
        value = (1 << source.randrange(bits + 1)) + source.choice([-1, 0, 1])
    return -value if source.random() < 0.5 else value


def rest(x, modulus):
    """The rest of the integer of a form by a small modulus."""
    if isinstance(x, int):
        return x % modulus
    value = 0
    sign = -1
    for turn in x:
        value += sign * rest_of_power(turn, modulus)
        sign = -sign
    return value % modulus


PERIODS = {}


def period_of(modulus):
    """(start, period): from 2**start on the rests of powers of 2 repeat."""
    if modulus not in PERIODS:
        seen = {}
        power = 1 % modulus
        exponent = 0
        while power not in seen:
            seen[power] = exponent
            power = power * 2 % modulus
            exponent += 1
        PERIODS[modulus] = (seen[power], exponent - seen[power])
    return PERIODS[modulus]


def rest_of_power(place, modulus):
    if isinstance(place, int):
        return pow(2, place, modulus)
    start, period = period_of(modulus)
    exponent = rest(place, period)
    while exponent < start:
        exponent += period
    return pow(2, exponent, modulus)


MODULI = (2, 3, 5, 7, 8, 11, 13, 17, 19, 23, 31, 64, 101, 251, 257, 641, 997, 1009)


def rests(x):
    return [rest(x, modulus) for modulus in MODULI]


def size(x):
    if isinstance(x, int):
        return 1
    return 1 + sum(size(turn) for turn in x)


def height(x):
    if isinstance(x, int):
        return 0
    return 1 + max(height(turn) for turn in x)


def less(x, y):
    """Whether one form means less than another, by the highest bit that differs."""
    if isinstance(x, int) and isinstance(y, int):
        return x < y
    x_turns = int_turns(x) if isinstance(x, int) else list(x)
    y_turns = int_turns(y) if isinstance(y, int) else list(y)
    if (len(x_turns) - len(y_turns)) % 2:
        return len(x_turns) % 2 == 1
    negative = len(x_turns) % 2 == 1
    while x_turns and y_turns and x_turns[-1] == y_turns[-1]:
        negative = not negative
        x_turns.pop()
        y_turns.pop()
    if not x_turns and not y_turns:
        return False
    y_is_later = not x_turns or (bool(y_turns) and less(x_turns[-1], y_turns[-1]))
    return y_is_later != negative


def sound(x):
    """Whether a value is the form of an integer, too large or not."""
    if isinstance(x, bool):
        return False
    if isinstance(x, int):
        return -2**64 <= x < 2**64
    if not isinstance(x, tuple) or not x:
        return False
    if not all(sound(turn) and not less(turn, 0) for turn in x):
        return False
    if not all(less(a, b) for a, b in zip(x, x[1:])):
        return False
    return less(64, x[-1])


def tower(levels):
    """2**(2**(.. 2**64)) of a height from 1 on."""
    low, high = 64, 65
    for _ in range(levels - 1):
        low, high = (low, high), plus_one_of_power(low, high)
    return (low, high)


def plus_one_of_power(low, high):
    """2**low + 1, where high is low + 1 and low is at least 64."""
    return (0, 1, low, high)


def spread(many, first=65, step=2):
    """A form with `many` turns that are plain: its size is many + 1."""
    return tuple(range(first, first + many * step, step))


def source_of(name):
    """A source of random choices that makes the same ones in each run."""
    return random.Random(name)
