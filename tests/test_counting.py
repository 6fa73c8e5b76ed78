"""[24]: ones and zeros of numbers, their counts and places."""

import unittest

from farbits.counting import kth_one, kth_zero, one_from, ones, ones_below
from farbits.counting import zero_from, zeros_below
from farbits.errors import Endless, NoPlace, NoSuch, NotANumber, TooLarge
from farbits.far import Far
from tests import model

NO_NUMBERS = [None, True, False, "5", b"5", (), (5,), [5], {}, 1.0, object()]
EDGES = [0, 1, -1, 2, 5, 13, -8, 2**63, 2**64 - 1, 2**64, 2**64 + 1, -2**64, -2**64 - 1, -2**64 + 5,
         2**70 + 5, -2**70 - 5, 2**200 - 2**64, 2**65 - 2**63]
WIDE = int("10" * 1100, 2)


class Case(unittest.TestCase):
    def raises(self, error, fields, function, *arguments):
        with self.assertRaises(error) as caught:
            function(*arguments)
        self.assertIs(type(caught.exception), error)
        self.assertEqual(list(vars(caught.exception)), list(fields))
        for field, value in fields.items():
            self.assertIs(getattr(caught.exception, field), value)

    def gives(self, result, value):
        if value is None:
            self.assertIsNone(result)
        else:
            self.assertIs(type(result), Far)
            self.assertEqual(result, value)

    def same_rests(self, result, rests):
        self.assertEqual(model.rests(result.form), [rest % m for rest, m in zip(rests, model.MODULI)])


def both_kinds(x):
    return [x, Far(x)]


def places_of(x, wanted, stop):
    return [p for p in range(stop) if x >> p & 1 == wanted]


def far_numbers(name, many=40, bits=30, most=400):
    """Far numbers of several heights, which are not all from 0 on."""
    source = model.source_of(name)
    found = []
    while len(found) < many:
        form = model.far_form(model.random_model(source, bits))
        if model.size(form) <= most and isinstance(form, tuple):
            found.append(Far(form))
    return found


def near_turns(x, many):
    """Places at and beside the last turns."""
    places = [turn + shift for turn in x.turns()[-many:] for shift in (-1, 0, 1, 70)]
    return [place for place in places if place >= 0]


def lengths_below(x, p):
    """The rests of the number of ones of x below p, from the turns of x."""
    rests = [0] * len(model.MODULI)
    turns = [turn for turn in x.turns() if turn < p]
    if len(turns) % 2:
        turns.append(Far(p))
    for k, turn in enumerate(turns):
        for i, rest in enumerate(model.rests(turn.form)):
            rests[i] += rest if k % 2 else -rest
    return rests


class Examples(Case):
    def test_examples(self):
        self.gives(ones_below(13, 3), 2)
        self.gives(ones_below(-1, 2**64), 2**64)

    def test_by_name(self):
        self.gives(ones_below(p=3, x=13), 2)
        self.gives(zeros_below(p=3, x=13), 1)
        self.gives(kth_one(k=2, x=13), 3)
        self.gives(kth_zero(k=0, x=13), 1)
        self.gives(one_from(p=1, x=13), 2)
        self.gives(zero_from(p=2, x=13), 4)
        self.gives(ones(x=13), 3)


class Ints(Case):
    def test_counts_below(self):
        for x in EDGES + list(range(-20, 20)):
            for p in [0, 1, 2, 3, 5, 63, 64, 65, 66, 70, 71, 130, 250]:
                for given in both_kinds(x):
                    for place in both_kinds(p):
                        self.gives(ones_below(given, place), len(places_of(x, 1, p)))
                        self.gives(zeros_below(given, place), len(places_of(x, 0, p)))

    def test_places_by_rank(self):
        for x in EDGES + list(range(-20, 20)):
            for wanted, function in [(1, kth_one), (0, kth_zero)]:
                places = places_of(x, wanted, 300)
                for k in [0, 1, 2, 3, 10, 63, 64, 65, 70, 140]:
                    for rank in both_kinds(k):
                        if k < len(places):
                            self.gives(function(x, rank), places[k])
                            self.gives(function(Far(x), rank), places[k])
                        else:
                            self.raises(NoSuch, {"rank": rank}, function, x, rank)

    def test_next_places(self):
        for x in EDGES + list(range(-20, 20)):
            for p in [0, 1, 2, 3, 4, 5, 62, 63, 64, 65, 66, 70, 71, 199, 200, 201]:
                for wanted, function in [(1, one_from), (0, zero_from)]:
                    later = [place for place in places_of(x, wanted, 300) if place >= p]
                    self.gives(function(x, p), later[0] if later else None)
                    self.gives(function(Far(x), Far(p)), later[0] if later else None)

    def test_ones(self):
        for x in EDGES + list(range(20)):
            if x >= 0:
                self.gives(ones(x), bin(x).count("1"))
                self.gives(ones(Far(x)), bin(x).count("1"))

    def test_random(self):
        source = model.source_of("random counts")
        for _ in range(150):
            x = model.random_int(source, source.choice([70, 200, 900]))
            p = source.randrange(1000)
            below = bin(x & ((1 << p) - 1)).count("1")
            self.gives(ones_below(x, p), below)
            self.gives(zeros_below(x, p), p - below)
            if x >> p & 1:
                self.gives(kth_one(x, below), p)
                self.gives(one_from(x, p), p)
            else:
                self.gives(kth_zero(x, p - below), p)
                self.gives(zero_from(x, p), p)


class FarNumbers(Case):
    def test_a_run(self):
        p, q = Far.power(2**70), Far.power(Far.power(2**70))
        x = Far.run(p, q) + 5
        self.gives(ones(x), q - p + 2)
        self.gives(ones_below(x, p), 2)
        self.gives(zeros_below(x, p), p - 2)
        self.gives(ones_below(x, q - 1), q - p + 1)
        self.gives(ones_below(x, q * 2), q - p + 2)
        self.gives(zeros_below(x, q * 2), q + p - 2)
        self.gives(kth_one(x, 2), p)
        self.gives(kth_one(x, q - p + 1), q - 1)
        self.gives(kth_zero(x, p - 3), p - 1)
        self.gives(kth_zero(x, p - 2), q)
        self.gives(kth_zero(x, q), 2 * q - p + 2)
        self.gives(one_from(x, 3), p)
        self.gives(one_from(x, p + 9), p + 9)
        self.gives(one_from(x, q), None)
        self.gives(zero_from(x, p), q)
        self.gives(zero_from(x, q + 9), q + 9)
        self.gives(zero_from(-x, q + 9), None)
        self.gives(one_from(-x, q + 9), q + 9)
        self.gives(kth_one(-1, q), q)
        self.gives(kth_zero(0, q), q)

    def test_counts_from_the_turns(self):
        for x in far_numbers("counts below"):
            for p in near_turns(x, 6):
                self.same_rests(ones_below(x, p), lengths_below(x, p))
                self.gives(ones_below(x, p) + zeros_below(x, p), p)
            if x.sign > 0:
                self.same_rests(ones(x), lengths_below(x, x.length))
                self.gives(ones(x), ones_below(x, x.length))

    def test_ranks_undo_counts(self):
        for x in far_numbers("ranks", 30):
            for p in near_turns(x, 8):
                if x[p]:
                    self.gives(kth_one(x, ones_below(x, p)), p)
                else:
                    self.gives(kth_zero(x, zeros_below(x, p)), p)

    def test_the_next_place_has_the_bit_and_none_is_between(self):
        for x in far_numbers("next places", 30):
            for p in near_turns(x, 8):
                for bit, function, count in [(1, one_from, ones_below), (0, zero_from, zeros_below)]:
                    place = function(x, p)
                    if place is None:
                        self.assertEqual((x.sign < 0) != bit, True)
                        self.assertGreaterEqual(p, x.length)
                    else:
                        self.assertEqual(x[place], bit)
                        self.assertGreaterEqual(place, p)
                        self.gives(count(x, place), count(x, p))

    def test_the_rank_that_is_just_not_there(self):
        for x in far_numbers("last ranks", 20):
            x = abs(x)
            many = ones(x)
            self.assertIs(type(kth_one(x, many - 1)), Far)
            self.raises(NoSuch, {"rank": many}, kth_one, x, many)
            self.gives(kth_one(x, many - 1), x.length - 1)
            zeros = zeros_below(~x, x.length)
            self.raises(NoSuch, {"rank": zeros}, kth_zero, ~x, zeros)
            self.gives(kth_zero(~x, zeros - 1), x.length - 1)
            self.gives(kth_one(-x, x), kth_one(-x, x - 1) + 1)


class Errors(Case):
    def test_no_numbers(self):
        for value in NO_NUMBERS:
            for function in [ones_below, zeros_below, kth_one, kth_zero, one_from, zero_from]:
                self.raises(NotANumber, {"value": value}, function, value, None)
                self.raises(NotANumber, {"value": value}, function, 5, value)
                self.raises(NotANumber, {"value": value}, function, Far.power(2**70), value)
            self.raises(NotANumber, {"value": value}, ones, value)

    def test_no_places(self):
        for place in [-1, Far(-1), -2**64 - 1, -Far.power(2**70)]:
            for function in [ones_below, zeros_below, one_from, zero_from]:
                for x in [0, -1, Far.power(2**70)]:
                    self.raises(NoPlace, {"place": place}, function, x, place)

    def test_no_such_rank(self):
        for rank in [-1, Far(-1), -2**70, -Far.power(2**70)]:
            for x in [0, -1, 5, Far.power(2**70)]:
                self.raises(NoSuch, {"rank": rank}, kth_one, x, rank)
                self.raises(NoSuch, {"rank": rank}, kth_zero, x, rank)
        for rank in [0, Far(0), 2**70, Far.power(2**70)]:
            self.raises(NoSuch, {"rank": rank}, kth_one, 0, rank)
            self.raises(NoSuch, {"rank": rank}, kth_zero, -1, rank)
        for rank in [1, 2, 2**70, Far.power(2**70)]:
            self.raises(NoSuch, {"rank": rank}, kth_one, Far.power(2**70), rank)

    def test_endless(self):
        for x in [-1, Far(-1), -2**70, -Far.power(2**70), -WIDE]:
            self.raises(Endless, {"value": x}, ones, x)

    def test_results_are_judged(self):
        p = Far(model.spread(1998, 70))
        self.gives(ones_below(-1, p), p)
        with self.assertRaises(TooLarge) as caught:
            zeros_below(1, p)
        self.assertEqual((caught.exception.parts, caught.exception.levels), (2000 + 1, 1))
        with self.assertRaises(TooLarge) as caught:
            one_from(-1, WIDE)
        self.assertEqual((caught.exception.parts, caught.exception.levels), (2201, 1))
        with self.assertRaises(TooLarge):
            kth_one(-1, WIDE)
        with self.assertRaises(TooLarge):
            ones_below(-1, WIDE)
        self.gives(ones_below(5, WIDE), 2)
        self.gives(ones(WIDE), 1100)
        self.assertIsNone(one_from(5, WIDE))
        high = Far(model.tower(6))
        self.gives(ones_below(-1, high), high)
        self.gives(kth_zero(5, high), high + 2)

    def test_arguments_stay(self):
        x, p = Far((3, (64, 65))), Far((5, 70))
        for function in [ones_below, zeros_below, kth_one, kth_zero, one_from, zero_from]:
            try:
                function(x, abs(p))
            except NoSuch:
                pass
        self.assertEqual((x.form, p.form), ((3, (64, 65)), (5, 70)))


if __name__ == "__main__":
    unittest.main()
