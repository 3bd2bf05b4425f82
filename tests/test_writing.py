import inspect
import unittest

from primefold.errors import NoSum
from primefold.writing import written
from tests.oracle import SIZES, WRITINGS, many_sums, strangers, writing

class Written(unittest.TestCase):
    def test_arguments(self):
        self.assertEqual(list(inspect.signature(written).parameters), ["thing", "size"])

    def test_table(self):
        for numbers, size, text in WRITINGS:
            self.assertEqual(written(numbers, size), text)

    def test_many_sums(self):
        for size in SIZES:
            for numbers in many_sums(size):
                self.assertEqual(written(numbers, size), writing(numbers), (numbers, size))

    def test_what_is_no_sum_is_not_written(self):
        for size in SIZES:
            for thing in strangers(size):
                with self.assertRaises(NoSum, msg=repr((thing, size))):
                    written(thing, size)

    def test_long_ones_are_not_written(self):
        for size in SIZES:
            for count in (10, 11, 17, 18, 100):
                with self.assertRaises(NoSum):
                    written((1,) * count, size)

    def test_the_size_decides(self):
        self.assertEqual(written((1, 2), 3), "2x + 1")
        with self.assertRaises(NoSum):
            written((1, 2), 2)
        self.assertEqual(written((1, 2), 5), "2x + 1")

    def test_asked_again_the_same_is_told(self):
        for _ in range(2):
            for numbers, size, text in WRITINGS:
                self.assertEqual(written(numbers, size), text)
