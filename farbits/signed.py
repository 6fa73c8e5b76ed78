"""Numbers as sums of few signed powers of two."""

from farbits.errors import InvalidTerm
from farbits.far import Far, Sound, far_of, form_in, is_number, number_form
from farbits.raw import opposite, plus_one, shifted_up, total
from farbits.turns import is_negative, turns_in


def signed(x):
    """The tuple of terms (sign, place) with the sum x, no two of them neighbours."""
    terms = signed_places(turns_in(number_form(x)))
    return tuple([(sign, Far(Sound(place))) for sign, place in terms])


def weight(x):
    """How many terms signed(x) has."""
    return len(signed_places(turns_in(number_form(x))))


def signed_places(turns):
    """The list of the terms, with forms for the places."""
    # The turns are terms with alternating signs themselves, and of two that are
    # neighbours the sum is one term: -2**t + 2**(t + 1) is 2**t.
    terms = []
    at = 0
    while at < len(turns):
        sign = 1 if at & 1 else -1
        if at + 1 < len(turns) and plus_one(turns[at]) == turns[at + 1]:
            terms.append((-sign, turns[at]))
            at += 2
        else:
            terms.append((sign, turns[at]))
            at += 1
    return terms


def signed_sum(terms):
    """The sum of a list of terms."""
    forms = []
    for index, term in enumerate(terms):
        if not is_term(term):
            raise InvalidTerm(index)
        sign, place = term
        power = shifted_up(1, form_in(place))
        forms.append(power if sign == 1 else opposite(power))
    return far_of(total(forms))


def is_term(value):
    """Whether any value is a term."""
    if not isinstance(value, tuple) or len(value) != 2:
        return False
    sign, place = value
    if not isinstance(sign, int) or isinstance(sign, bool) or sign not in (1, -1):
        return False
    return is_number(place) and not is_negative(form_in(place))
