import inspect
import itertools
import unittest

from primefold.errors import NoPart, NoSum, NoText
from primefold.powers import both, inverse, power
from tests.oracle import (SIZES, divides, drawn_sums, is_plain_sum, long_sums, multiplied, rest, shares,
                          shares_by_trying, some_sums, sums_up_to, whole_part, whole_primes)

GREAT = 10 ** 30


def bys(size):
    return [one for one in some_sums(size) + list(sums_up_to(2, size)) if len(one) > 1]


class Arguments(unittest.TestCase):
    def test_arguments(self):
        self.assertEqual(list(inspect.signature(power).parameters)[1:], ["number", "by", "size"])
        self.assertEqual(list(inspect.signature(inverse).parameters)[1:], ["by", "size"])
        self.assertEqual(list(inspect.signature(both).parameters)[1:], ["first", "other", "second", "size"])


class Power(unittest.TestCase):
    def test_by_hand(self):
        self.assertEqual(power((0, 1), 2, (1, 1, 1), 2), (1, 1))
        self.assertEqual(power((0, 1), 3, (1, 1, 1), 2), (1,))
        self.assertEqual(power((1, 1), 2, (1, 0, 1), 3), (0, 2))
        self.assertEqual(power((0, 2), 4, (2, 0, 1), 5), (4,))
        self.assertEqual(power((), 7, (1, 1), 5), ())

    def test_of_0_the_rest_is_1(self):
        for size in SIZES:
            for by in bys(size):
                for one in some_sums(size):
                    self.assertEqual(power(one, 0, by, size), (1,))

    def test_step_by_step(self):
        for size in SIZES:
            for by in bys(size)[:14]:
                for one in some_sums(size)[::2]:
                    asked = (1,)
                    for number in range(12):
                        found = power(one, number, by, size)
                        self.assertTrue(is_plain_sum(found, size))
                        self.assertEqual(found, asked, (one, number, by, size))
                        asked = rest(multiplied(asked, one, size), by, size)

    def test_great_numbers_grow_step_by_step(self):
        for size in SIZES:
            for by, one in zip(bys(size), drawn_sums(40, 9, size, 1)):
                for number in (10 ** 6, 2 ** 64, GREAT - 2, GREAT - 1, GREAT, GREAT + 7, 10 ** 33):
                    found = power(one, number, by, size)
                    self.assertTrue(is_plain_sum(found, size))
                    self.assertLess(len(found), len(by))
                    following = rest(multiplied(found, one, size), by, size)
                    self.assertEqual(power(one, number + 1, by, size), following, (one, number, by, size))

    def test_great_numbers_put_together(self):
        for size in SIZES:
            for by, one in zip(bys(size), drawn_sums(40, 9, size, 2)):
                apart = multiplied(power(one, GREAT // 3, by, size), power(one, GREAT - GREAT // 3, by, size), size)
                self.assertEqual(power(one, GREAT, by, size), rest(apart, by, size))

    def test_by_a_prime(self):
        for size, most in ((2, 8), (3, 5), (5, 4)):
            for length in range(1, most + 1):
                for prime in whole_primes(length, size)[::1 + len(whole_primes(length, size)) // 10]:
                    number = size ** length
                    for one in some_sums(size):
                        own = rest(one, prime, size)
                        self.assertEqual(power(one, number, prime, size), own, (one, prime, size))
                        # One power less is 1, so that a great number counts only by its remainder.
                        asked = () if own == () else (1,)
                        self.assertEqual(power(one, number - 1, prime, size), asked, (one, prime, size))
                        if own != ():
                            left = power(one, GREAT % (number - 1), prime, size)
                            self.assertEqual(power(one, GREAT, prime, size), left, (one, prime, size))

    def test_by_a_prime_of_9_numbers(self):
        for size in SIZES:
            tried = (one for one in long_sums(100, 9, size, 1) if whole_part(one, size, range(1, 5)) is None)
            for prime in itertools.islice(tried, 2):
                for one in some_sums(size):
                    own = rest(one, prime, size)
                    self.assertEqual(power(one, size ** 8, prime, size), own)
                    self.assertEqual(power(one, size ** 8 - 1, prime, size), () if own == () else (1,))

    def test_somewhat_beyond_9_numbers(self):
        for size in SIZES:
            for one, by in zip(long_sums(10, 13, size, 1), long_sums(10, 12, size, 2)):
                asked = (1,)
                for number in range(8):
                    self.assertEqual(power(one, number, by, size), asked)
                    asked = rest(multiplied(asked, one, size), by, size)


class Inverse(unittest.TestCase):
    def holds(self, one, by, size):
        found = inverse(one, by, size)
        self.assertTrue(is_plain_sum(found, size), found)
        self.assertLess(len(found), len(by), (one, by, size))
        self.assertEqual(rest(multiplied(found, one, size), by, size), (1,), (one, by, size))

    def refused(self, one, by, size):
        with self.assertRaises(NoPart, msg=repr((one, by, size))) as caught:
            inverse(one, by, size)
        self.assertNotIsInstance(caught.exception, (NoSum, NoText))

    def test_by_hand(self):
        self.assertEqual(inverse((0, 1), (1, 1, 1), 2), (1, 1))
        self.assertEqual(inverse((2,), (0, 1), 3), (2,))
        self.assertEqual(inverse((0, 1), (1, 0, 1), 3), (0, 2))
        self.assertEqual(inverse((1, 1), (0, 3), 5), (1,))

    def test_all_short_ones(self):
        for size, count in ((2, 5), (3, 3), (5, 2)):
            for one, by in itertools.product(sums_up_to(count, size), repeat=2):
                if len(by) > 1:
                    if shares_by_trying(one, by, size):
                        self.refused(one, by, size)
                    else:
                        self.holds(one, by, size)

    def test_refused_just_where_no_sum_turns_it(self):
        for size, count in ((2, 4), (3, 3), (5, 3)):
            for by in itertools.islice(sums_up_to(count, size), size, None, 7):
                for one in itertools.islice(sums_up_to(3, size), 0, None, 3):
                    turned = [other for other in sums_up_to(len(by) - 1, size)
                              if rest(multiplied(one, other, size), by, size) == (1,)]
                    if turned:
                        self.assertEqual([inverse(one, by, size)], turned)
                    else:
                        self.refused(one, by, size)

    def test_drawn_ones(self):
        for size in SIZES:
            for one, by in itertools.product(some_sums(size), bys(size)):
                if shares(one, by, size):
                    self.refused(one, by, size)
                else:
                    self.holds(one, by, size)

    def test_products(self):
        for size in SIZES:
            for third in bys(size)[:8]:
                for one, by in zip(drawn_sums(30, 4, size, 1), drawn_sums(30, 4, size, 2)):
                    if by != ():
                        self.refused(multiplied(one, third, size), multiplied(by, third, size), size)

    def test_by_a_prime_all_but_its_multiples(self):
        for size, most in ((2, 8), (3, 5), (5, 4)):
            for length in range(1, most + 1):
                prime = whole_primes(length, size)[-1]
                for one in some_sums(size):
                    if divides(prime, one, size):
                        self.refused(one, prime, size)
                    else:
                        self.holds(one, prime, size)

    def test_nought(self):
        for size in SIZES:
            for by in bys(size):
                self.refused((), by, size)
                self.refused(by, by, size)

    def test_somewhat_beyond_9_numbers(self):
        for size in SIZES:
            prime = whole_primes(3, size)[0]
            by = multiplied(multiplied(prime, prime, size), multiplied(prime, prime, size), size)
            for one in long_sums(15, 12, size, 1):
                if divides(prime, one, size):
                    self.refused(one, by, size)
                else:
                    self.holds(one, by, size)


class Both(unittest.TestCase):
    def holds(self, one, first, other, second, size):
        found = both(one, first, other, second, size)
        place = (one, first, other, second, size)
        self.assertTrue(is_plain_sum(found, size), place)
        self.assertLess(len(found), len(multiplied(one, other, size)), place)
        self.assertEqual(rest(found, one, size), rest(first, one, size), place)
        self.assertEqual(rest(found, other, size), rest(second, other, size), place)
        return found

    def refused(self, one, first, other, second, size):
        with self.assertRaises(NoPart, msg=repr((one, first, other, second, size))) as caught:
            both(one, first, other, second, size)
        self.assertNotIsInstance(caught.exception, (NoSum, NoText))

    def test_by_hand(self):
        self.assertEqual(both((0, 1), (1,), (1, 1), (), 2), (1, 1))
        self.assertEqual(both((0, 1), (2,), (2, 1), (1,), 3), (2, 2))
        self.assertEqual(both((0, 1), (), (1, 1), (), 5), ())

    def test_all_short_ones(self):
        for size, count in ((2, 4), (3, 3), (5, 2)):
            longer = [one for one in sums_up_to(count, size) if len(one) > 1]
            rests = [(), (1,), (size - 1, 1), (0, 1, 1), (1,) * 5]
            for one, other in itertools.product(longer, repeat=2):
                for first, second in zip(rests, rests[2:] + rests[:2]):
                    if shares_by_trying(one, other, size):
                        self.refused(one, first, other, second, size)
                    else:
                        self.holds(one, first, other, second, size)

    def test_rests_come_from_just_one_sum(self):
        for size in SIZES:
            for one, other in (((0, 1), (1, 1)), ((0, 0, 1), (1, 1)), ((size - 1, 0, 1), (0, size - 1))):
                made = [self.holds(one, first, other, second, size)
                        for first in sums_up_to(len(one) - 1, size) for second in sums_up_to(len(other) - 1, size)]
                self.assertEqual(len(set(made)), size ** (len(one) + len(other) - 2))
                self.assertEqual(sorted(made), sorted(sums_up_to(len(one) + len(other) - 2, size)))

    def test_primes_of_all_lengths(self):
        for size, most in ((2, 8), (3, 5), (5, 4)):
            known = [prime for length in range(1, most + 1) for prime in whole_primes(length, size)[-2:]]
            firsts, seconds = drawn_sums(400, 9, size, 1), drawn_sums(400, 9, size, 2)
            for (one, other), first, second in zip(itertools.product(known, repeat=2), firsts, seconds):
                if one == other:
                    self.refused(one, first, other, second, size)
                else:
                    self.holds(one, first, other, second, size)

    def test_9_numbers(self):
        for size in SIZES:
            sums = [long_sums(60, 9, size, seed) for seed in (1, 2, 3, 4)]
            for one, first, other, second in zip(*sums):
                if shares(one, other, size):
                    self.refused(one, first, other, second, size)
                else:
                    self.holds(one, first, other, second, size)

    def test_products(self):
        for size in SIZES:
            for third in bys(size)[:8]:
                for one, other in zip(drawn_sums(30, 4, size, 1), drawn_sums(30, 4, size, 2)):
                    if one != () and other != ():
                        made, more = multiplied(one, third, size), multiplied(other, third, size)
                        self.refused(made, (1,), more, (1,), size)
                        # Rests that one sum could have are refused as well.
                        self.refused(made, (), more, (), size)

    def test_somewhat_beyond_9_numbers(self):
        for size in SIZES:
            for one, first, second in zip(*[long_sums(10, 12, size, seed) for seed in (1, 2, 3)]):
                other = (0,) * 11 + (1,)
                if one[0] == 0:
                    self.refused(one, first, other, second, size)
                else:
                    self.holds(one, first, other, second, size)
