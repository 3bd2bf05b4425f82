import inspect
import itertools
import unittest

from primefold.errors import NoPart, NoSum, NoText
from primefold.reckoning import parted, plus, roots, times, value
from tests.oracle import (SIZES, added, drawn_sums, is_plain_sum, long_sums, many_sums, multiplied, negative, some_sums,
                          sums_up_to)


def pairs(size):
    """Pairs of sums of up to 9 numbers: all of the short ones, and drawn ones."""
    yield from itertools.product(sums_up_to(3, size), repeat=2)
    yield from itertools.product(some_sums(size), repeat=2)
    yield from zip(drawn_sums(400, 9, size, 1), drawn_sums(400, 9, size, 2))


class Arguments(unittest.TestCase):
    def test_arguments(self):
        for function in (plus, times, parted):
            self.assertEqual(list(inspect.signature(function).parameters), ["one", "other", "size"])
        self.assertEqual(list(inspect.signature(value).parameters)[1:], ["number", "size"])
        self.assertEqual(list(inspect.signature(roots).parameters)[1:], ["size"])


class PlusTimes(unittest.TestCase):
    def test_by_hand(self):
        self.assertEqual(plus((1, 1), (1, 0, 1), 2), (0, 1, 1))
        self.assertEqual(plus((2, 1), (2, 1), 3), (1, 2))
        self.assertEqual(plus((4, 3, 2), (3, 3), 5), (2, 1, 2))
        self.assertEqual(times((1, 1), (1, 1), 2), (1, 0, 1))
        self.assertEqual(times((1, 1), (1, 1), 3), (1, 2, 1))
        self.assertEqual(times((2, 1), (3, 1), 5), (1, 0, 1))
        self.assertEqual(times((0, 2), (0, 0, 3), 5), (0, 0, 0, 1))

    def test_pairs(self):
        for size in SIZES:
            for one, other in pairs(size):
                for function, own in ((plus, added), (times, multiplied)):
                    found = function(one, other, size)
                    self.assertEqual(found, own(one, other, size), (function, one, other, size))
                    self.assertTrue(is_plain_sum(found, size), found)

    def test_nought_and_one(self):
        for size in SIZES:
            for one in some_sums(size):
                self.assertEqual([plus(one, (), size), plus((), one, size)], [one, one])
                self.assertEqual([times(one, (), size), times((), one, size)], [(), ()])
                self.assertEqual([times(one, (1,), size), times((1,), one, size)], [one, one])

    def test_highest_powers_fall_away(self):
        for size in SIZES:
            for one in drawn_sums(200, 9, size, 3):
                self.assertEqual(plus(one, negative(one, size), size), ())
                for kept in range(len(one)):
                    other = (0,) * kept + negative(one, size)[kept:]
                    left = one[:kept]
                    while left and left[-1] == 0:
                        left = left[:-1]
                    self.assertEqual(plus(one, other, size), left, (one, other, size))
                    self.assertEqual(plus(other, one, size), left, (one, other, size))
        self.assertEqual(plus((1, 0, 0, 1), (0, 0, 0, 1), 2), (1,))
        self.assertEqual(plus((1, 0, 0, 1), (0, 1, 0, 2), 3), (1, 1))

    def test_rows_of_three(self):
        for size in SIZES:
            for one, other, third in zip(*[drawn_sums(100, 9, size, seed) for seed in (6, 7, 8)]):
                apart = plus(times(one, third, size), times(other, third, size), size)
                self.assertEqual(times(plus(one, other, size), third, size), apart)

    def test_somewhat_beyond_9_numbers(self):
        for size in SIZES:
            for count in (10, 11, 12, 17, 20):
                for one, other in zip(long_sums(10, count, size, 1), long_sums(10, count, size, 2)):
                    self.assertEqual(plus(one, other, size), added(one, other, size))
                    self.assertEqual(times(one, other, size), multiplied(one, other, size))


class Parted(unittest.TestCase):
    def holds(self, one, other, size):
        found = parted(one, other, size)
        self.assertIs(type(found), tuple)
        self.assertEqual(len(found), 2)
        many, rest = found
        self.assertTrue(is_plain_sum(many, size) and is_plain_sum(rest, size), found)
        self.assertLess(len(rest), len(other), (one, other, size))
        self.assertEqual(added(multiplied(many, other, size), rest, size), one, (one, other, size))

    def test_by_hand(self):
        self.assertEqual(parted((1, 0, 1), (1, 1), 2), ((1, 1), ()))
        self.assertEqual(parted((1, 0, 1), (1, 1), 3), ((2, 1), (2,)))
        self.assertEqual(parted((1, 2, 3, 4), (1, 2), 5), ((2, 3, 2), (4,)))
        self.assertEqual(parted((0, 0, 0, 1), (0, 2), 3), ((0, 0, 2), ()))

    def test_pairs(self):
        for size in SIZES:
            for one, other in pairs(size):
                if other != ():
                    self.holds(one, other, size)

    def test_one_of_up_to_17_numbers_and_somewhat_beyond(self):
        for size in SIZES:
            others = [one for one in some_sums(size) if one != ()]
            for count in list(range(9, 18)) + [18, 20, 24]:
                for one in long_sums(6, count, size, count):
                    for other in others:
                        self.holds(one, other, size)
            for one, other in itertools.product(long_sums(5, 20, size, 1), long_sums(5, 12, size, 2)):
                self.holds(one, other, size)

    def test_one_nought_or_shorter(self):
        for size in SIZES:
            for one, other in itertools.product(some_sums(size), repeat=2):
                if len(one) < len(other):
                    self.assertEqual(parted(one, other, size), ((), one))

    def test_other_of_length_0(self):
        for size in SIZES:
            for number in range(1, size):
                for one in some_sums(size) + long_sums(5, 17, size, 1):
                    many, rest = parted(one, (number,), size)
                    self.assertEqual(rest, ())
                    self.assertEqual(multiplied(many, (number,), size), one)

    def test_products(self):
        for size in SIZES:
            for one, other in itertools.product(some_sums(size), repeat=2):
                if other != ():
                    self.assertEqual(parted(multiplied(one, other, size), other, size), (one, ()))

    def test_by_nought(self):
        for size in SIZES:
            for one in some_sums(size) + long_sums(3, 17, size, 1):
                with self.assertRaises(NoPart) as caught:
                    parted(one, (), size)
                self.assertNotIsInstance(caught.exception, (NoSum, NoText))


class Value(unittest.TestCase):
    def test_by_hand(self):
        self.assertEqual([value((1, 0, 2), number, 3) for number in range(3)], [1, 0, 0])
        self.assertEqual([value((1, 0, 1), number, 5) for number in range(5)], [1, 2, 0, 0, 2])
        self.assertEqual([value((1, 1), number, 2) for number in range(2)], [1, 0])

    def test_every_number(self):
        for size in SIZES:
            for one in many_sums(size):
                for number in range(size):
                    found = value(one, number, size)
                    self.assertIs(type(found), int)
                    asked = sum(part * number ** power for power, part in enumerate(one)) % size
                    self.assertEqual(found, asked, (one, number, size))

    def test_somewhat_beyond(self):
        for size in SIZES:
            for one in some_sums(size) + long_sums(5, 12, size, 1):
                for number in range(size + 3):
                    asked = sum(part * number ** power for power, part in enumerate(one)) % size
                    self.assertEqual(value(one, number, size), asked)


class Roots(unittest.TestCase):
    def test_by_hand(self):
        self.assertEqual(roots((1, 0, 1), 5), (2, 3))
        self.assertEqual(roots((1, 0, 1), 3), ())
        self.assertEqual(roots((1, 0, 1), 2), (1,))
        self.assertEqual(roots((0, 2, 0, 1), 3), (0, 1, 2))

    def test_many(self):
        for size in SIZES:
            for one in many_sums(size):
                found = roots(one, size)
                self.assertIs(type(found), tuple)
                self.assertTrue(all(type(number) is int for number in found))
                asked = [n for n in range(size) if sum(part * n ** power for power, part in enumerate(one)) % size == 0]
                self.assertEqual(found, tuple(asked), (one, size))

    def test_nought_and_numbers(self):
        for size in SIZES:
            self.assertEqual(roots((), size), tuple(range(size)))
            for number in range(1, size):
                self.assertEqual(roots((number,), size), ())

    def test_products_of_roots(self):
        for size in SIZES:
            for count in range(size + 1):
                for chosen in itertools.combinations(range(size), count):
                    made = (1,)
                    for number in chosen:
                        made = multiplied(made, (-number % size, 1), size)
                    self.assertEqual(roots(made, size), chosen)
