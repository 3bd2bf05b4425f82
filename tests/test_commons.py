import inspect
import itertools
import unittest

from primefold.commons import common
from tests.oracle import (SIZES, added, divides, drawn_sums, is_plain_sum, long_sums, multiplied, some_sums, sums_up_to,
                          whole_part, whole_sums)


class Common(unittest.TestCase):
    def holds(self, one, other, size):
        found = common(one, other, size)
        place = (one, other, size)
        self.assertIs(type(found), tuple, place)
        self.assertEqual(len(found), 3, place)
        greatest, first, second = found
        self.assertTrue(all(is_plain_sum(part, size) for part in found), (place, found))
        self.assertEqual(greatest[-1], 1, place)
        self.assertTrue(divides(greatest, one, size) and divides(greatest, other, size), place)
        self.assertEqual(added(multiplied(first, one, size), multiplied(second, other, size), size), greatest, place)
        return greatest

    def none_is_longer(self, greatest, one, other, size):
        shortest = min(len(part) for part in (one, other) if part != ())
        for length in range(len(greatest), shortest):
            for part in whole_sums(length, size):
                self.assertFalse(divides(part, one, size) and divides(part, other, size), (part, one, other, size))

    def test_arguments(self):
        self.assertEqual(list(inspect.signature(common).parameters), ["one", "other", "size"])

    def test_by_hand(self):
        self.assertEqual(common((1, 0, 1), (1, 1), 2)[0], (1, 1))
        self.assertEqual(common((1, 0, 1), (1, 1), 3)[0], (1,))
        self.assertEqual(common((0, 2), (0, 0, 2), 3)[0], (0, 1))
        self.assertEqual(common((3, 3), (2,), 5)[0], (1,))

    def test_all_short_pairs(self):
        for size, count in ((2, 5), (3, 3), (5, 2)):
            for one, other in itertools.product(sums_up_to(count, size), repeat=2):
                if one != () or other != ():
                    self.none_is_longer(self.holds(one, other, size), one, other, size)

    def test_drawn_pairs(self):
        for size in SIZES:
            for one, other in zip(drawn_sums(300, 9, size, 1), drawn_sums(300, 9, size, 2)):
                if one != () or other != ():
                    self.holds(one, other, size)
            for one, other in itertools.product(some_sums(size), repeat=2):
                if one != () or other != ():
                    self.holds(one, other, size)

    def test_none_is_longer_of_9_numbers(self):
        for size, count in ((2, 30), (3, 4)):
            for one, other in zip(long_sums(count, 9, size, 1), long_sums(count, 9, size, 2)):
                self.none_is_longer(self.holds(one, other, size), one, other, size)

    def test_one_of_the_two_nought(self):
        for size in SIZES:
            for one in some_sums(size):
                if one != ():
                    whole = next(multiplied(one, (n,), size) for n in range(1, size) if one[-1] * n % size == 1)
                    self.assertEqual(self.holds(one, (), size), whole)
                    self.assertEqual(self.holds((), one, size), whole)

    def test_two_noughts(self):
        for size in SIZES:
            self.assertEqual(common((), (), size), ((), (), ()))

    def test_numbers(self):
        for size in SIZES:
            for number in range(1, size):
                for one in some_sums(size):
                    self.assertEqual(self.holds(one, (number,), size), (1,))
                    self.assertEqual(self.holds((number,), one, size), (1,))

    def test_products_with_a_third_sum(self):
        for size in SIZES:
            thirds = [one for one in drawn_sums(80, 5, size, 3) if one != ()]
            for one, other, third in zip(drawn_sums(80, 5, size, 1), drawn_sums(80, 5, size, 2), thirds):
                if one == () and other == ():
                    continue
                made, more = multiplied(one, third, size), multiplied(other, third, size)
                greatest = self.holds(made, more, size)
                self.assertTrue(divides(third, greatest, size), (one, other, third, size))
                alone = self.holds(one, other, size)
                self.assertEqual(len(greatest) - 1, len(alone) - 1 + len(third) - 1)

    def test_third_sum_is_told_where_nothing_else_is_shared(self):
        for size in SIZES:
            for third in whole_sums(2, size):
                one, other = multiplied((0, 1), third, size), multiplied((1, 1), third, size)
                self.assertEqual(self.holds(one, other, size), third)
                self.assertIsNone(whole_part(third, size, [3]))

    def test_somewhat_beyond_9_numbers(self):
        for size in SIZES:
            for count in (10, 12, 17):
                for one, other in zip(long_sums(10, count, size, 1), long_sums(10, count - 1, size, 2)):
                    self.holds(one, other, size)
