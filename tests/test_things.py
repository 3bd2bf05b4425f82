import copy
import inspect
import unittest

from primefold.errors import NoSum
from primefold.things import is_sum
from primefold.writing import written
from tests.oracle import SIZES, many_sums, strangers


class IsSum(unittest.TestCase):
    def test_arguments(self):
        self.assertEqual(list(inspect.signature(is_sum).parameters), ["thing", "size"])

    def test_nought(self):
        for size in SIZES:
            self.assertIs(is_sum((), size), True)

    def test_sums_of_1_to_9_numbers(self):
        for size in SIZES:
            for count in range(1, 10):
                self.assertIs(is_sum((size - 1,) * count, size), True)
                self.assertIs(is_sum((1,) * count, size), True)
                self.assertIs(is_sum((0,) * (count - 1) + (1,), size), True)

    def test_many_sums(self):
        for size in SIZES:
            for numbers in many_sums(size):
                self.assertIs(is_sum(numbers, size), True, (numbers, size))

    def test_10_numbers_or_more(self):
        for size in SIZES:
            for count in range(10, 30):
                self.assertIs(is_sum((1,) * count, size), False)

    def test_last_number_0(self):
        for size in SIZES:
            for thing in ((0,), (0, 0), (1, 0), (1, 1, 0), (1,) * 8 + (0,)):
                self.assertIs(is_sum(thing, size), False, thing)

    def test_numbers_are_below_the_size(self):
        for size in SIZES:
            for number in range(-7, 12):
                self.assertIs(is_sum((number,), size), 0 < number < size, (number, size))
                self.assertIs(is_sum((number, 1), size), 0 <= number < size, (number, size))
                self.assertIs(is_sum((0, number, 1), size), 0 <= number < size, (number, size))

    def test_the_size_decides(self):
        self.assertEqual([is_sum((2, 1), size) for size in SIZES], [False, True, True])
        self.assertEqual([is_sum((1, 4), size) for size in SIZES], [False, False, True])

    def test_truths_are_no_numbers(self):
        for size in SIZES:
            for thing in ((True,), (False,), (True, 1), (False, 1), (1, True), (1, False), (0, True, 1)):
                self.assertIs(is_sum(thing, size), False, thing)

    def test_lists_stand_nowhere(self):
        for size in SIZES:
            for thing in ([], [1], [0, 1], ([],), ([1],), (1, [1]), ([1], 1), [(1,)]):
                self.assertIs(is_sum(thing, size), False, thing)

    def test_strangers(self):
        for size in SIZES:
            for thing in strangers(size):
                self.assertIs(is_sum(thing, size), False, (thing, size))


class Unchanged(unittest.TestCase):
    def test_what_is_handed_in_is_not_changed(self):
        for size in SIZES:
            for thing in strangers(size):
                before = copy.deepcopy(thing)
                is_sum(thing, size)
                with self.assertRaises(NoSum):
                    written(thing, size)
                # repr tells 1 from True, which == does not.
                self.assertEqual(repr(thing), repr(before))

    def test_asked_again_the_same_is_told(self):
        for first in SIZES:
            things = [thing for size in SIZES for thing in strangers(size)] + [(), (1,), (0, 1), (1, 1, 1), (2,), (1, 4)]
            once = [is_sum(thing, first) for thing in things]
            for other in SIZES:
                for thing in things:
                    is_sum(thing, other)
            self.assertEqual([is_sum(thing, first) for thing in things], once)

    def test_an_answer_does_not_outlive_a_change(self):
        inner = []
        thing = (inner,)
        self.assertIs(is_sum(thing, 3), False)
        inner.append(1)
        self.assertIs(is_sum(thing, 3), False)
        self.assertEqual(thing, ([1],))
