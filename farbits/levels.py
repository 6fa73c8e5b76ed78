"""How the rests of the powers of two by small moduli repeat, level by level."""

from farbits.raw import minus
from farbits.turns import near_int

MOST_MODULUS = 1000000
MOST_TWO = 20
FIRST_BITS = 9


def is_modulus(value):
    """Whether any value is an integer from 1 to 1,000,000."""
    return is_level_number(value) and value >= 1


def is_level_number(value):
    """Whether any value is an integer from 0 to 1,000,000."""
    return isinstance(value, int) and not isinstance(value, bool) and 0 <= value <= MOST_MODULUS


def are_levels(value):
    """Whether any value are levels of a modulus, which then is the first number."""
    if not isinstance(value, tuple) or len(value) == 0:
        return False
    for level in value:
        if not is_level(level):
            return False
    for k in range(1, len(value)):
        _, _, odd, period = value[k - 1]
        if odd == 1 or value[k][0] != period:
            return False
    return value[-1][2] == 1


def is_level(value):
    """Whether any value is a level."""
    if not isinstance(value, tuple) or len(value) != 4:
        return False
    for number in value:
        if not is_level_number(number):
            return False
    modulus, two, odd, period = value
    if two > MOST_TWO or odd & 1 == 0 or modulus != odd << two:
        return False
    return period >= 1 and rest_of_near_power(period, odd) == 1 % odd


def least_levels(modulus):
    """The levels of a modulus with the least periods."""
    levels = [least_level(modulus)]
    while levels[-1][2] != 1:
        levels.append(least_level(levels[-1][3]))
    return tuple(levels)


def least_level(modulus):
    """The level of a modulus with the least period."""
    odd = modulus
    two = 0
    while odd & 1 == 0:
        odd = odd // 2
        two += 1
    return (modulus, two, odd, least_period(odd))


def least_period(odd):
    """The least period for which 2**period has the rest of 1 by an odd number."""
    # By Euler's theorem the number of coprimes is a multiple of the least period.
    period = coprimes_up_to(odd)
    for prime in primes_in(period):
        while period % prime == 0 and rest_of_near_power(period // prime, odd) == 1 % odd:
            period = period // prime
    return period


def coprimes_up_to(number):
    """How many integers from 1 to a number have no divisor in common with it."""
    many = number
    for prime in primes_in(number):
        many = many // prime * (prime - 1)
    return many


def primes_in(number):
    """The list of the primes that divide a number from 1 on, ascending."""
    primes = []
    left = number
    prime = 2
    while prime * prime <= left:
        if left % prime == 0:
            primes.append(prime)
            while left % prime == 0:
                left = left // prime
        prime += 1
    if left > 1:
        primes.append(left)
    return primes


def rest_of_near_power(exponent, modulus):
    """The rest of 2**exponent by a modulus, for an int as exponent."""
    behind = max(0, exponent.bit_length() - FIRST_BITS)
    rest = (1 << (exponent >> behind)) % modulus
    for k in range(behind - 1, -1, -1):
        rest = (rest * rest << ((exponent >> k) & 1)) % modulus
    return rest


def rest_by_levels(x, levels, at):
    """The rest of a form, or of any int, by the modulus of a level, an int."""
    modulus = levels[at][0]
    value = near_int(x)
    if value is not None:
        return value % modulus
    rest = 0
    for k in range(len(x)):
        power = rest_of_power(x[k], levels, at)
        rest = rest + power if k & 1 else rest - power
    return rest % modulus


def rest_of_power(place, levels, at):
    """The rest of 2**place by the modulus of a level, an int."""
    modulus, two, odd, period = levels[at]
    if isinstance(place, int):
        if place < two:
            return (1 << place) % modulus
        # The modulus of the next level is the period of this one.
        within = (place - two) % period
    elif odd == 1:
        return 0
    else:
        within = rest_by_levels(minus(place, two), levels, at + 1)
    return (rest_of_near_power(within, odd) << two) % modulus
