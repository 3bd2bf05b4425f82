import inspect
import itertools
import unittest

from primefold.errors import NoText
from primefold.reading import read
from tests.oracle import SIZES, WRITINGS, is_writing, many_sums, sums_up_to, writing

SIGNS = "\t\n\r" + "".join(chr(code) for code in range(32, 127))

NO_WRITINGS = (
    "", " ", "  ", "\n", "\t", "1x", "1x2", "x1", "2x1", "x0", "1x0", "2x0", "0x", "0x2", "00", "01", "02", "10", "11",
    "1 + 0", "0 + 1", "0 + 0", "x + 0", "0 + x", "x2 + 0x + 1", "0x2 + x", "x + 1 + 0",
    "1 + x", "x + x2", "x2 + 1 + x", "x2 + x3 + 1", "x + x", "1 + 1", "x2 + x2", "x + 1 + 1", "x2 + x + x", "x8 + x8",
    "x+1", "x +1", "x+ 1", "x  + 1", "x +  1", " x", "x ", " 1", "1 ", " 0", "0 ", "x + 1 ", " x + 1", "x 2", "2 x",
    "\tx", "x\t", "x\n", "\nx", "x\t+\t1", "x\n+\n1", "x +\n1", "x + 1\n", "x + 1\r\n", "0\n", "1\n", "1\t",
    "x - 1", "-x", "-1", "+x", "+1", "+ x", "-0", "+0", "x * x", "x*2", "2*x", "x^2", "x**2", "(x)", "x.", "1.0", "1_0",
    "x_2", "X", "X2", "y", "a", "xx", "x2x", "xx2", "2xx", "#", "~", "x + y", "x, 1", "None", "True", "()", "(1,)",
    " + ", "+", "x + ", " + x", "x + + 1", "x +  + 1", "1 + ", " + 1", "x + 1 + ", " + x + 1", " + 0", "0 + ",
    "x9", "x9 + 1", "x9 + x8", "x10", "x11", "x12 + x", "x16", "x80", "x88", "x100", "1x9", "x02", "x08", "x00", "01x",
    "x + 01", "02x", "x2 + x1", "x2 + 1x", "x2 + x0", "x + 1x0", "x" + "9" * 5000, "9" * 5000, "x + " * 100 + "1",
)


class Read(unittest.TestCase):
    def refused(self, text, size):
        with self.assertRaises(NoText, msg=repr((text, size))):
            read(text, size)

    def agrees(self, text, size, known):
        """known holds the sum of each writing that may come up; all else is to be refused."""
        if text in known:
            self.assertEqual(read(text, size), known[text], (text, size))
        else:
            self.refused(text, size)

    def test_arguments(self):
        self.assertEqual(list(inspect.signature(read).parameters), ["text", "size"])

    def test_table(self):
        for numbers, size, text in WRITINGS:
            self.assertEqual(read(text, size), numbers)

    def test_many_sums(self):
        for size in SIZES:
            for numbers in many_sums(size):
                self.assertEqual(read(writing(numbers), size), numbers, (numbers, size))

    def test_what_is_read_is_a_tuple_of_whole_numbers(self):
        for numbers, size, text in WRITINGS:
            found = read(text, size)
            self.assertIs(type(found), tuple)
            self.assertTrue(all(type(number) is int for number in found), found)

    def test_no_writings(self):
        for size in SIZES:
            for text in NO_WRITINGS:
                self.refused(text, size)

    def test_numbers_of_the_size_or_beyond(self):
        for size in SIZES:
            for number in list(range(size, 12)) + [20, 100]:
                for form in ("%d", "%dx", "%dx2", "%dx8", "x + %d", "%dx + 1", "x2 + %dx", "%dx2 + x + 1"):
                    self.refused(form % number, size)

    def test_the_size_decides(self):
        self.refused("2x + 1", 2)
        self.assertEqual(read("2x + 1", 3), (1, 2))
        self.refused("4x2", 3)
        self.assertEqual(read("4x2", 5), (0, 0, 4))
        self.refused("2x + 1", 2)

    def test_all_short_texts(self):
        for size in SIZES:
            known = {writing(numbers): numbers for numbers in sums_up_to(6, size)}
            known.update({"x%d" % power: (0,) * power + (1,) for power in range(6, 9)})
            known.update({"%dx%d" % (n, power): (0,) * power + (n,) for n in range(2, size) for power in range(6, 9)})
            for length in range(5):
                for signs in itertools.product("0123489x+ ", repeat=length):
                    self.agrees("".join(signs), size, known)
            for signs in itertools.product("012x+ ", repeat=5):
                self.agrees("".join(signs), size, known)

    def test_all_rows_of_up_to_three_terms(self):
        terms = ["", "0", "1", "2", "4", "5", "x", "2x", "x0", "x1", "1x", "0x", "x2", "4x2", "x8", "2x8", "x9"]
        for size in SIZES:
            for count in (2, 3):
                for row in itertools.product(terms, repeat=count):
                    text = " + ".join(row)
                    if is_writing(text, size):
                        self.assertEqual(writing(read(text, size)), text, size)
                    else:
                        self.refused(text, size)

    def test_one_sign_more_less_or_other(self):
        for numbers, size, text in WRITINGS:
            for place in range(len(text) + 1):
                changed = [text[:place] + text[place + 1:]]
                for sign in SIGNS:
                    changed += [text[:place] + sign + text[place:], text[:place] + sign + text[place + 1:]]
                for other in changed:
                    if is_writing(other, size):
                        self.assertEqual(writing(read(other, size)), other, size)
                    else:
                        self.refused(other, size)

    def test_every_sign_by_itself(self):
        for size in SIZES:
            known = {str(number): (number,) for number in range(1, size)}
            known.update({"0": (), "x": (0, 1)})
            for sign in SIGNS:
                self.agrees(sign, size, known)

    def test_asked_again_the_same_is_told(self):
        for _ in range(2):
            for numbers, size, text in WRITINGS:
                self.assertEqual(read(text, size), numbers)
            for text in NO_WRITINGS:
                self.refused(text, 5)


class Oracle(unittest.TestCase):
    """The two ways in which the tests tell what a writing is agree with each other."""

    def test_writings(self):
        for size in SIZES:
            for numbers in many_sums(size):
                self.assertTrue(is_writing(writing(numbers), size), numbers)
            for text in NO_WRITINGS:
                self.assertFalse(is_writing(text, size), text)
