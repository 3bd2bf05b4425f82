"""What holds over the whole program: kinds, nothing changed, the same told again, and the laws of 0.2."""

import copy
import itertools
import unittest

from primefold.commons import common
from primefold.errors import FoldError, NoPart
from primefold.powers import both, inverse, power
from primefold.primes import count_primes, factors, is_prime, primes, split
from primefold.reading import read
from primefold.reckoning import parted, plus, roots, times, value
from primefold.things import is_sum
from primefold.writing import written
from tests.oracle import (SIZES, added, divides, is_plain, is_plain_sum, multiplied, product, rest, shares,
                          shares_by_trying, some_sums, sums_up_to)


def questions(size):
    """Every function of the interface with arguments of all sorts that it takes, refused ones among them."""
    sums = some_sums(size)[::2]
    for one in sums:
        for function in (is_sum, written, roots, split, is_prime, factors):
            yield function, (one, size)
        for number in range(size):
            yield value, (one, number, size)
    for one, other in itertools.product(sums, repeat=2):
        for function in (plus, times, parted, common):
            yield function, (one, other, size)
        if len(other) > 1:
            yield power, (one, 10 ** 30, other, size)
            yield inverse, (one, other, size)
        if len(one) > 1 and len(other) > 1:
            yield both, (one, other, other, one, size)
    for length in range(1, 4):
        yield primes, (length, size)
        yield count_primes, (length, size)
    for text in ("x2 + 1", "0", "1", "x + x", ""):
        yield read, (text, size)


def answer(function, arguments):
    try:
        return function(*arguments)
    except FoldError as refusal:
        return type(refusal).__name__


class Kinds(unittest.TestCase):
    def test_told_things_are_plain_and_handed_ones_unchanged(self):
        for size in SIZES:
            for function, arguments in questions(size):
                before = copy.deepcopy(arguments)
                told = answer(function, arguments)
                self.assertTrue(is_plain(told), (function, arguments, told))
                self.assertEqual(repr(arguments), repr(before))

    def test_truths_where_truths_are_told_and_nowhere_else(self):
        for size in SIZES:
            for function, arguments in questions(size):
                told = answer(function, arguments)
                self.assertEqual("True" in repr(told) or "False" in repr(told), function in (is_sum, is_prime))

    def test_asked_again_the_same_is_told(self):
        asked = [question for size in SIZES for question in questions(size)]
        once = [answer(function, arguments) for function, arguments in asked]
        again = [answer(function, arguments) for function, arguments in reversed(asked)]
        self.assertEqual(repr(once), repr(again[::-1]))

    def test_only_no_part_is_raised_here(self):
        for size in SIZES:
            for function, arguments in questions(size):
                if function not in (written, read):
                    try:
                        function(*arguments)
                    except NoPart as refusal:
                        self.assertIs(type(refusal), NoPart)


class Laws(unittest.TestCase):
    def test_parted_and_common(self):
        for size in SIZES:
            for one, other in itertools.product(some_sums(size), repeat=2):
                if other != ():
                    many, left = parted(one, other, size)
                    self.assertEqual(plus(times(many, other, size), left, size), one)
                    greatest, first, second = common(one, other, size)
                    self.assertEqual(plus(times(first, one, size), times(second, other, size), size), greatest)

    def test_split_as_far_as_it_goes_are_the_primes(self):
        for size in SIZES:
            for one in some_sums(size):
                if one == ():
                    continue
                lead, pairs = factors(one, size)
                told = sorted(prime for prime, often in pairs for _ in range(often))
                self.assertEqual(sorted(self.whole(part, size) for part in self.ends(one, size)), told)
                self.assertEqual(multiplied((lead,), product(told, size), size), one)

    def ends(self, one, size):
        pair = split(one, size)
        if pair is None:
            return [one] if len(one) > 1 else []
        return self.ends(pair[0], size) + self.ends(pair[1], size)

    def whole(self, one, size):
        return next(made for made in (multiplied(one, (n,), size) for n in range(1, size)) if made[-1] == 1)

    def test_each_prime_leads_each_sum_to_itself(self):
        for size in SIZES:
            for length in range(1, 4):
                for prime in primes(length, size)[:6]:
                    for one in some_sums(size):
                        self.assertEqual(power(one, size ** length, prime, size), rest(one, prime, size))

    def test_turned_or_a_common_part(self):
        for size in SIZES:
            for one, by in itertools.product(some_sums(size), repeat=2):
                if len(by) > 1:
                    told = answer(inverse, (one, by, size))
                    self.assertEqual(told == "NoPart", len(common(one, by, size)[0]) > 1, (one, by, size))

    def test_what_was_written_is_reckoned_with(self):
        self.assertEqual(written(times(read("x + 2", 5), read("x + 3", 5), 5), 5), "x2 + 1")
        self.assertEqual(written(plus(read("2x2 + 1", 3), read("x2 + 1", 3), 3), 3), "2")


class Oracle(unittest.TestCase):
    """The tests' own reckoning, held against what can be told without it."""

    def test_reckoning(self):
        self.assertEqual(added((1, 2), (2, 1), 3), ())
        self.assertEqual(multiplied((1, 2), (2, 1), 3), (2, 2, 2))
        self.assertEqual(rest((1, 0, 1), (1, 1), 3), (2,))
        self.assertTrue(divides((1, 1), (1, 0, 1), 2))
        self.assertFalse(divides((1, 1), (1, 0, 1), 3))

    def test_two_ways_to_tell_a_common_part(self):
        for size, count in ((2, 4), (3, 3), (5, 2)):
            for one, other in itertools.product(sums_up_to(count, size), repeat=2):
                if one != () and other != ():
                    self.assertEqual(shares(one, other, size), shares_by_trying(one, other, size), (one, other, size))

    def test_some_sums(self):
        for size in SIZES:
            self.assertTrue(all(is_plain_sum(one, size) for one in some_sums(size)))
            self.assertLessEqual({0, 1, 2, 3, 9}, {len(one) for one in some_sums(size)})
            self.assertFalse(is_plain_sum((True,), size) or is_plain_sum([1], size) or is_plain_sum((0,), size))
