"""The document's words on sums and their writing, said once more for the tests, without the program."""

import itertools
import re

SIZES = (2, 3, 5)

WRITINGS = (
    ((), 2, "0"),
    ((), 3, "0"),
    ((), 5, "0"),
    ((1,), 2, "1"),
    ((1,), 5, "1"),
    ((4,), 5, "4"),
    ((0, 1), 2, "x"),
    ((0, 2), 3, "2x"),
    ((1, 1), 2, "x + 1"),
    ((2, 1), 3, "x + 2"),
    ((1, 2), 3, "2x + 1"),
    ((0, 0, 1), 3, "x2"),
    ((0, 0, 0, 2), 3, "2x3"),
    ((0, 0, 0, 2), 5, "2x3"),
    ((1, 1, 1), 2, "x2 + x + 1"),
    ((1, 0, 1), 2, "x2 + 1"),
    ((0, 1, 1), 2, "x2 + x"),
    ((3, 0, 4, 0, 1), 5, "x4 + 4x2 + 3"),
    ((0, 0, 0, 0, 0, 0, 0, 0, 1), 2, "x8"),
    ((1, 0, 0, 0, 0, 0, 0, 0, 4), 5, "4x8 + 1"),
    ((1,) * 9, 2, "x8 + x7 + x6 + x5 + x4 + x3 + x2 + x + 1"),
    ((2,) * 9, 3, "2x8 + 2x7 + 2x6 + 2x5 + 2x4 + 2x3 + 2x2 + 2x + 2"),
)


def sums_up_to(count, size):
    """All sums of at most count numbers, nought first."""
    yield ()
    for length in range(count):
        for below in itertools.product(range(size), repeat=length):
            for last in range(1, size):
                yield below + (last,)


def spread_sums(size):
    """Sums of 6 to 9 numbers, spread over all of them: the digits of every so many whole numbers."""
    for code in range(size ** 5, size ** 9, max(1, size ** 9 // 4001)):
        numbers = []
        while code:
            numbers.append(code % size)
            code //= size
        yield tuple(numbers)


def many_sums(size):
    yield from sums_up_to(5, size)
    yield from spread_sums(size)


def writing(numbers):
    """The writing, made by mending a full one: every number, every x, every power."""
    parts = []
    for power, number in enumerate(numbers):
        if number:
            parts.insert(0, "%dx%d" % (number, power))
    text = " + ".join(parts) or "0"
    text = re.sub(r"x0\b", "", text)
    text = re.sub(r"x1\b", "x", text)
    return re.sub(r"\b1x", "x", text)


def is_writing(text, size):
    """Whether the text is a sum's writing, told by its form."""
    if text == "0":
        return True
    figures = "".join(str(number) for number in range(1, size))
    ahead = "[%s]?" % figures.replace("1", "") if size > 2 else ""
    places = ["%sx%d" % (ahead, power) for power in range(8, 1, -1)]
    places += ["%sx" % ahead, "[%s]" % figures]
    # Each place at most once, falling; a mark ahead of each term makes the first like the others.
    form = "".join(r"(?: \+ %s)?" % place for place in places)
    return text != "" and re.fullmatch(form, " + " + text) is not None


def nested(make, depth, core):
    thing = core
    for step in range(depth):
        thing = make(thing, step)
    return thing


def in_tuple(thing, step):
    return (thing,)


def in_list(thing, step):
    return [thing]


def in_turns(thing, step):
    return (1, thing) if step % 2 else [thing, 1]


def strangers(size):
    """Things that are no sums on a clock of this size."""
    plain = [None, True, False, 0, 1, 2, -1, size, 10 ** 40, "", "0", "1", "x", "x + 1", "(1,)"]
    lists = [[], [1], [0, 1], [1] * 9, [1] * 10, [()], [[]], [None], ["1"], [True]]
    wrong_parts = []
    for part in (-1, -size, size, size + 1, 10, 10 ** 40, -10 ** 40, True, False, None, "", "1", "0", (), (1,), [], [1]):
        wrong_parts += [(part,), (part, 1), (0, part, 1), (1, part), (1,) * 8 + (part,), (part,) + (1,) * 8]
    noughts_last = [(1,) * count + (0,) for count in range(9)] + [(0,) * count for count in range(1, 12)]
    long_ones = [(1,) * count for count in range(10, 40)] + [(0,) * count + (1,) for count in range(9, 40)]
    long_ones += [(size - 1,) * 10, (1,) * 17, (1,) + (0,) * 8 + (1,), (1,) * 1000, (1,) * 9 + (0,), (1,) * 9 + (None,)]
    deep = []
    for depth in (1, 2, 3, 10, 29, 30, 31, 35):
        for core in ((1,), [1], (), [], [()]):
            deep += [nested(make, depth, core) for make in (in_tuple, in_list, in_turns)]
        deep += [nested(in_list, depth, 1), nested(in_tuple, depth + 1, 1), nested(in_turns, depth, "x"),
                 nested(in_turns, depth, True), nested(in_turns, depth, None)]
    return plain + lists + wrong_parts + noughts_last + long_ones + deep
