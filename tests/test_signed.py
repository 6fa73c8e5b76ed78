"""[28]: numbers as sums of signed powers of two."""

import unittest

from farbits.errors import InvalidTerm, NotANumber, TooLarge
from farbits.far import Far
from farbits.signed import signed, signed_sum, weight
from tests import model
from tests.test_counting import NO_NUMBERS, WIDE, Case, both_kinds, far_numbers

EDGES = [0, 1, -1, 2**63, 2**64 - 1, 2**64, 2**64 + 1, -2**64, -2**64 - 1, 2**70 + 5, -2**70 - 5]


def terms_of(x):
    """The terms of an int by the rests by 4."""
    terms = []
    place = 0
    while x:
        if x % 2:
            sign = 2 - x % 4
            terms.append((sign, place))
            x -= sign
        x //= 2
        place += 1
    return terms


def least_terms(most):
    """The least number of terms of each int from 0 up to most, by trying all of few."""
    found = {0: 0}
    powers = [1 << p for p in range(most.bit_length() + 2)]
    many = 0
    while any(x not in found for x in range(most)):
        many += 1
        for x in [x for x, terms in found.items() if terms == many - 1]:
            for power in powers:
                found.setdefault(x + power, many)
                found.setdefault(x - power, many)
    return found


class Signed(Case):
    def check(self, x, terms):
        result = signed(x)
        self.assertIs(type(result), tuple)
        for term in result:
            self.assertIs(type(term), tuple)
            sign, place = term
            self.assertIs(type(sign), int)
            self.assertIs(type(place), Far)
        self.assertEqual([(sign, place) for sign, place in result], terms)
        self.assertEqual(weight(x), len(terms))
        self.assertIs(type(weight(x)), int)

    def test_examples(self):
        self.check(11, [(-1, 0), (-1, 2), (1, 4)])
        self.check(0, [])
        self.assertEqual(signed(0), ())
        self.assertEqual(weight(2**64 - 1), 2)

    def test_ints(self):
        for x in EDGES + list(range(-300, 300)):
            for given in both_kinds(x):
                self.check(given, terms_of(x))

    def test_long_ints(self):
        source = model.source_of("signed")
        for _ in range(100):
            x = model.random_int(source, source.choice([66, 130, 1000]))
            self.check(x, terms_of(x))

    def test_no_shorter_sum(self):
        least = least_terms(300)
        for x in range(300):
            self.assertEqual(weight(x), least[x])

    def test_far(self):
        p = Far.power(2**70)
        self.check(Far.power(p), [(1, p)])
        self.check(-Far.power(p), [(-1, p)])
        self.check(Far.power(p) - 1, [(-1, Far(0)), (1, p)])
        self.check(Far.power(p) * 3, [(-1, p), (1, p + 2)])
        self.check(Far.power(p) * 5, [(1, p), (1, p + 2)])
        self.check(Far.power(p) * -11, [(1, p), (1, p + 2), (-1, p + 4)])
        self.check(Far.run(5, p), [(-1, Far(5)), (1, p)])

    def test_far_sums(self):
        for x in far_numbers("far sums of terms", 40):
            terms = signed(x)
            self.assertEqual(signed_sum(list(terms)), x)
            self.assertEqual(weight(x), len(terms))
            for (_, low), (_, high) in zip(terms, terms[1:]):
                self.assertGreater(high, low + 1)

    def test_never_too_large(self):
        self.check(WIDE, terms_of(WIDE))
        self.check(-WIDE, terms_of(-WIDE))
        self.assertEqual(weight(WIDE), 1100)
        high = Far(model.tower(6))
        self.check(high, [(1, high.low)])

    def test_errors(self):
        for value in NO_NUMBERS:
            self.raises(NotANumber, {"value": value}, signed, value)
            self.raises(NotANumber, {"value": value}, weight, value)
        self.assertEqual(weight(x=7), 2)
        self.assertEqual(len(signed(x=7)), 2)


class SignedSum(Case):
    def test_any_order_and_repeated_places(self):
        self.gives(signed_sum([]), 0)
        self.gives(signed_sum(()), 0)
        self.gives(signed_sum([(1, 3)]), 8)
        self.gives(signed_sum(terms=[(-1, Far(3))]), -8)
        self.gives(signed_sum([(1, 5), (-1, 0), (1, 0), (-1, 0), (1, 5), (1, 2)]), 67)
        self.gives(signed_sum(((1, 64), (-1, 0))), 2**64 - 1)
        self.gives(signed_sum([(1, 70)] * 1000), 1000 * 2**70)
        p = Far.power(2**70)
        self.gives(signed_sum([(1, p), (-1, 5), (1, p)]), Far.power(p + 1) - 32)

    def test_random(self):
        source = model.source_of("signed sums")
        for _ in range(60):
            terms = [(source.choice([1, -1]), source.randrange(200)) for _ in range(source.randrange(60))]
            self.gives(signed_sum(terms), sum(sign << place for sign, place in terms))

    def test_invalid_terms(self):
        p = Far.power(2**70)
        wrong = [None, True, 5, "ab", [1, 3], (), (1,), (1, 2, 3), (True, 3), (Far(1), 3), (0, 3), (2, 3), (-2, 3),
                 (1.0, 3), ("1", 3), (None, 3), (1, None), (1, True), (1, -1), (1, Far(-1)), (1, -p), (1, "3"),
                 (1, 3.0), (1, (64, 65)), (1, [3]), Far(5), (False, 3), ((1, 3),)]
        for entry in wrong:
            with self.subTest(entry=entry):
                with self.assertRaises(InvalidTerm) as caught:
                    signed_sum([entry])
                self.assertEqual(caught.exception.index, 0)
                with self.assertRaises(InvalidTerm) as caught:
                    signed_sum([(1, 3), (-1, p), (1, 0), entry, None])
                self.assertEqual(caught.exception.index, 3)
                with self.assertRaises(InvalidTerm) as caught:
                    signed_sum(((1, model.value_of(model.spread(1500))), entry))
                self.assertEqual(caught.exception.index, 1)

    def test_only_the_sum_is_judged(self):
        q = Far(model.spread(998, 70))
        self.gives(signed_sum([(1, q), (1, 5), (-1, q)]), 32)
        self.gives(signed_sum([(1, WIDE), (-1, WIDE)]), 0)
        with self.assertRaises(TooLarge) as caught:
            signed_sum([(1, q), (1, 5)])
        self.assertEqual(caught.exception.levels, 2)
        with self.assertRaises(TooLarge) as caught:
            signed_sum([(1, Far(model.tower(6)))])
        self.assertEqual(caught.exception.levels, 7)

    def test_the_list_stays(self):
        terms = [(1, 3), (-1, Far(5))]
        signed_sum(terms)
        self.assertEqual(terms, [(1, 3), (-1, Far(5))])


if __name__ == "__main__":
    unittest.main()
