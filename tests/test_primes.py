import inspect
import itertools
import unittest

from primefold.errors import NoPart, NoSum, NoText
from primefold.primes import count_primes, factors, is_prime, primes, split
from tests.oracle import (SIZES, drawn_sums, is_plain_sum, long_sums, multiplied, product, some_sums, spread_sums,
                          sums_up_to, whole_part, whole_primes, whole_sums)

LONGEST = {2: 9, 3: 6, 5: 4}


def known_primes(size, most=None):
    return [prime for length in range(1, (most or LONGEST[size]) + 1) for prime in whole_primes(length, size)]


def drawn_primes(size, length, count, seed):
    """Whole primes of this length, found by trying all that could divide them."""
    found = []
    for one in long_sums(20 * count * length, length + 1, size, seed):
        one = one[:-1] + (1,)
        if len(found) < count and one not in found and whole_part(one, size, range(1, length // 2 + 1)) is None:
            found.append(one)
    return found


class Arguments(unittest.TestCase):
    def test_arguments(self):
        for function in (split, is_prime, factors):
            self.assertEqual(list(inspect.signature(function).parameters)[1:], ["size"])
        for function in (primes, count_primes):
            self.assertEqual(list(inspect.signature(function).parameters), ["length", "size"])


class Split(unittest.TestCase):
    def holds(self, one, size):
        """Whether one was split; both answers are looked into."""
        found = split(one, size)
        prime = is_prime(one, size)
        self.assertIs(type(prime), bool)
        self.assertEqual(prime, found is None and len(one) > 1, (one, size))
        if found is None:
            self.assertIsNone(whole_part(one, size, range(1, (len(one) - 1) // 2 + 1)), (one, size))
            return False
        self.assertIs(type(found), tuple)
        self.assertEqual(len(found), 2)
        for part in found:
            self.assertTrue(is_plain_sum(part, size), found)
            self.assertGreater(len(part), 1, (one, size))
        self.assertEqual(multiplied(found[0], found[1], size), one, size)
        return True

    def test_by_hand(self):
        self.assertIsNone(split((1, 1, 1), 2))
        self.assertEqual(split((1, 0, 1), 2), ((1, 1), (1, 1)))
        self.assertIsNone(split((1, 0, 1), 3))
        self.assertIsNotNone(split((1, 0, 1), 5))
        self.assertIs(is_prime((1, 1, 0, 1), 2), True)
        self.assertIs(is_prime((1, 0, 1, 0, 1), 2), False)
        self.assertIs(is_prime((2, 0, 1), 5), True)
        self.assertIs(is_prime((3, 0, 4), 5), True)

    def test_nought_and_length_0(self):
        for size in SIZES:
            for one in [()] + [(number,) for number in range(1, size)]:
                self.assertIsNone(split(one, size))
                self.assertIs(is_prime(one, size), False)

    def test_length_1(self):
        for size in SIZES:
            for one in itertools.product(range(size), range(1, size)):
                self.assertIsNone(split(one, size))
                self.assertIs(is_prime(one, size), True)

    def test_all_short_sums(self):
        for size, count in ((2, 9), (3, 6), (5, 4)):
            for one in sums_up_to(count, size):
                self.holds(one, size)

    def test_sums_of_up_to_9_numbers(self):
        for size, count in ((2, 100), (3, 300), (5, 200)):
            for one in drawn_sums(count, 9, size, 1) + list(spread_sums(size))[::29]:
                self.holds(one, size)

    def test_all_primes_of_the_short_lengths(self):
        for size in SIZES:
            for length in range(1, LONGEST[size] + 1):
                known = whole_primes(length, size)
                for one in whole_sums(length, size):
                    self.assertIs(is_prime(one, size), one in known, (one, size))
                    self.assertEqual(split(one, size) is None, one in known, (one, size))

    def test_a_number_ahead_changes_nothing(self):
        for size in SIZES:
            for one in whole_sums(3, size):
                for number in range(1, size):
                    more = multiplied(one, (number,), size)
                    self.assertEqual(self.holds(more, size), self.holds(one, size), (one, number, size))

    def test_squares_and_higher_powers_of_primes(self):
        for size in SIZES:
            for prime in known_primes(size, 4):
                for often in range(2, 8 // (len(prime) - 1) + 1):
                    self.assertTrue(self.holds(product([prime] * often, size), size), (prime, often, size))

    def test_products_of_two_primes_of_the_same_length(self):
        for size in SIZES:
            for length in range(1, 5):
                chosen = primes(length, size)[:30]
                for one, other in itertools.combinations(chosen, 2):
                    self.assertTrue(self.holds(multiplied(one, other, size), size), (one, other, size))

    def test_primes_of_9_numbers(self):
        for size in SIZES:
            for prime in drawn_primes(size, 8, 3, 1):
                self.assertIs(is_prime(prime, size), True)
                self.assertIsNone(split(prime, size))

    def test_somewhat_beyond_9_numbers(self):
        for size, count in ((2, 12), (3, 11), (5, 10)):
            for numbers in range(10, count + 1):
                for one in long_sums(8, numbers, size, 1):
                    self.holds(one, size)


class Factors(unittest.TestCase):
    def form(self, one, size):
        """What can be told of every answer without knowing the primes; the pairs are given back."""
        found = factors(one, size)
        self.assertIs(type(found), tuple)
        lead, pairs = found
        self.assertIs(type(lead), int)
        self.assertEqual(lead, one[-1])
        self.assertIs(type(pairs), tuple)
        for pair in pairs:
            self.assertIs(type(pair), tuple)
            prime, often = pair
            self.assertIs(type(often), int)
            self.assertGreater(often, 0)
            self.assertTrue(is_plain_sum(prime, size))
            self.assertGreater(len(prime), 1)
            self.assertEqual(prime[-1], 1)
        order = [(len(prime), prime) for prime, often in pairs]
        self.assertEqual(order, sorted(set(order)), (one, size))
        made = product([prime for prime, often in pairs for _ in range(often)], size)
        self.assertEqual(multiplied(made, (lead,), size), one)
        return pairs

    def holds(self, one, size):
        for prime, often in self.form(one, size):
            self.assertIsNone(whole_part(prime, size, range(1, (len(prime) - 1) // 2 + 1)), (one, prime, size))

    def made_of(self, lead, known, size):
        """Of the product of known primes just these are told."""
        one = multiplied((lead,), product(known, size), size)
        ordered = sorted(set(known), key=lambda prime: (len(prime), prime))
        asked = (lead, tuple((prime, known.count(prime)) for prime in ordered))
        self.assertEqual(factors(one, size), asked, (one, size))
        self.form(one, size)

    def test_by_hand(self):
        self.assertEqual(factors((1, 0, 1), 2), (1, (((1, 1), 2),)))
        self.assertEqual(factors((1, 0, 2), 3), (2, (((1, 1), 1), ((2, 1), 1))))
        self.assertEqual(factors((0, 0, 0, 3), 5), (3, (((0, 1), 3),)))
        self.assertEqual(factors((3, 0, 3), 5), (3, (((2, 1), 1), ((3, 1), 1))))
        self.assertEqual(factors((0, 1, 0, 0, 0, 1), 3), (1, (((0, 1), 1), ((2, 1, 1), 1), ((2, 2, 1), 1))))

    def test_all_short_sums(self):
        for size, count in ((2, 9), (3, 5), (5, 4)):
            for one in sums_up_to(count, size):
                if one != ():
                    self.holds(one, size)

    def test_drawn_sums_of_9_numbers(self):
        for size, count in ((2, 100), (3, 100), (5, 60)):
            for one in long_sums(count, 9, size, 1) + some_sums(size):
                if one != ():
                    self.holds(one, size)

    def test_the_primes_of_a_product_are_those_of_both(self):
        for size in SIZES:
            for one, other in zip(drawn_sums(120, 9, size, 1), drawn_sums(120, 9, size, 2)):
                if one != () and other != ():
                    together = dict(factors(one, size)[1])
                    for prime, often in factors(other, size)[1]:
                        together[prime] = together.get(prime, 0) + often
                    found = factors(multiplied(one, other, size), size)
                    self.assertEqual(dict(found[1]), together, (one, other, size))
                    self.assertEqual(found[0], one[-1] * other[-1] % size)

    def test_known_primes_of_up_to_17_numbers_together(self):
        for size in SIZES:
            known = known_primes(size)
            for seed in range(60):
                chosen = []
                place = seed * 7919
                while True:
                    prime = known[place % len(known)]
                    if sum(len(one) - 1 for one in chosen) + len(prime) - 1 > 16:
                        break
                    chosen += [prime] * (1 + seed % 2) if 2 * len(prime) + sum(map(len, chosen)) < 16 else [prime]
                    place = place * 31 + 11
                self.made_of(1 + seed % (size - 1), chosen, size)

    def test_two_primes_of_9_numbers(self):
        for size in SIZES:
            found = drawn_primes(size, 8, 3, 1)
            self.assertEqual(len(found), 3)
            for one, other in itertools.product(found, repeat=2):
                for lead in range(1, size):
                    self.made_of(lead, [one, other], size)
            for one in found:
                self.made_of(size - 1, [one] + [(0, 1)] * 4 + [(1, 1)] * 4, size)

    def test_a_prime_so_often_as_the_size_tells(self):
        for size in SIZES:
            for prime in known_primes(size, 2):
                for often in range(1, 16 // (len(prime) - 1) + 1):
                    self.made_of(1, [prime] * often, size)
                    if often * (len(prime) - 1) < 16 and prime != (1, 1):
                        self.made_of(size - 1, [prime] * often + [(1, 1)], size)

    def test_length_0(self):
        for size in SIZES:
            for number in range(1, size):
                self.assertEqual(factors((number,), size), (number, ()))

    def test_nought(self):
        for size in SIZES:
            with self.assertRaises(NoPart) as caught:
                factors((), size)
            self.assertNotIsInstance(caught.exception, (NoSum, NoText))

    def test_somewhat_beyond_17_numbers(self):
        for size in SIZES:
            for numbers in (18, 20):
                for one in long_sums(10, numbers, size, 1):
                    self.form(one, size)
            known = known_primes(size, 4)
            self.made_of(1, known[-5:], size)


class Primes(unittest.TestCase):
    def test_by_hand(self):
        self.assertEqual(primes(1, 2), ((0, 1), (1, 1)))
        self.assertEqual(primes(2, 2), ((1, 1, 1),))
        self.assertEqual(primes(3, 2), ((1, 0, 1, 1), (1, 1, 0, 1)))
        self.assertEqual(primes(2, 3), ((1, 0, 1), (2, 1, 1), (2, 2, 1)))

    def test_all_of_the_lengths_1_to_4(self):
        for size in SIZES:
            for length in range(1, 5):
                found = primes(length, size)
                self.assertIs(type(found), tuple)
                self.assertTrue(all(is_plain_sum(prime, size) for prime in found))
                self.assertEqual(found, whole_primes(length, size))
                tried = [one for one in whole_sums(length, size)
                         if whole_part(one, size, range(1, length // 2 + 1)) is None]
                self.assertEqual(found, tuple(tried))
                self.assertEqual(list(found), sorted(set(found)))

    def test_somewhat_beyond_length_4(self):
        for size, most in ((2, 8), (3, 6), (5, 5)):
            for length in range(5, most + 1):
                self.assertEqual(primes(length, size), whole_primes(length, size))
        for size in SIZES:
            self.assertEqual(primes(0, size), ())


class CountPrimes(unittest.TestCase):
    def test_by_hand(self):
        self.assertEqual([count_primes(length, 2) for length in range(1, 9)], [2, 1, 2, 3, 6, 9, 18, 30])
        self.assertEqual([count_primes(length, 3) for length in range(1, 6)], [3, 3, 8, 18, 48])
        self.assertEqual([count_primes(length, 5) for length in range(1, 5)], [5, 10, 40, 150])
        self.assertEqual(count_primes(30, 2), 35790267)

    def test_as_many_as_primes_tells(self):
        for size in SIZES:
            for length in range(1, 5):
                found = count_primes(length, size)
                self.assertIs(type(found), int)
                self.assertEqual(found, len(primes(length, size)))

    def test_the_size_taken_so_often(self):
        for size in SIZES:
            for length in list(range(1, 31)) + [31, 32, 36, 40, 60]:
                parts = [shorter for shorter in range(1, length + 1) if length % shorter == 0]
                reached = sum(shorter * count_primes(shorter, size) for shorter in parts)
                self.assertEqual(reached, size ** length, (length, size))

    def test_no_primes_of_length_0(self):
        for size in SIZES:
            self.assertEqual(count_primes(0, size), 0)
