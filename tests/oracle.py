"""The document's words on sums, their writing and reckoning, said once more for the tests, without the program."""

import functools
import itertools
import re

SIZES = (2, 3, 5)

WRITINGS = (
    ((), 2, "0"),
    ((), 3, "0"),
    ((), 5, "0"),
    ((1,), 2, "1"),
    ((1,), 5, "1"),
    ((4,), 5, "4"),
    ((0, 1), 2, "x"),
    ((0, 2), 3, "2x"),
    ((1, 1), 2, "x + 1"),
    ((2, 1), 3, "x + 2"),
    ((1, 2), 3, "2x + 1"),
    ((0, 0, 1), 3, "x2"),
    ((0, 0, 0, 2), 3, "2x3"),
    ((0, 0, 0, 2), 5, "2x3"),
    ((1, 1, 1), 2, "x2 + x + 1"),
    ((1, 0, 1), 2, "x2 + 1"),
    ((0, 1, 1), 2, "x2 + x"),
    ((3, 0, 4, 0, 1), 5, "x4 + 4x2 + 3"),
    ((0, 0, 0, 0, 0, 0, 0, 0, 1), 2, "x8"),
    ((1, 0, 0, 0, 0, 0, 0, 0, 4), 5, "4x8 + 1"),
    ((1,) * 9, 2, "x8 + x7 + x6 + x5 + x4 + x3 + x2 + x + 1"),
    ((2,) * 9, 3, "2x8 + 2x7 + 2x6 + 2x5 + 2x4 + 2x3 + 2x2 + 2x + 2"),
)


def sums_up_to(count, size):
    """All sums of at most count numbers, nought first."""
    yield ()
    for length in range(count):
        for below in itertools.product(range(size), repeat=length):
            for last in range(1, size):
                yield below + (last,)


def spread_sums(size):
    """Sums of 6 to 9 numbers, spread over all of them: the digits of every so many whole numbers."""
    for code in range(size ** 5, size ** 9, max(1, size ** 9 // 4001)):
        numbers = []
        while code:
            numbers.append(code % size)
            code //= size
        yield tuple(numbers)


def many_sums(size):
    yield from sums_up_to(5, size)
    yield from spread_sums(size)


def writing(numbers):
    """The writing, made by mending a full one: every number, every x, every power."""
    parts = []
    for power, number in enumerate(numbers):
        if number:
            parts.insert(0, "%dx%d" % (number, power))
    text = " + ".join(parts) or "0"
    text = re.sub(r"x0\b", "", text)
    text = re.sub(r"x1\b", "x", text)
    return re.sub(r"\b1x", "x", text)


def is_writing(text, size):
    """Whether the text is a sum's writing, told by its form."""
    if text == "0":
        return True
    figures = "".join(str(number) for number in range(1, size))
    ahead = "[%s]?" % figures.replace("1", "") if size > 2 else ""
    places = ["%sx%d" % (ahead, power) for power in range(8, 1, -1)]
    places += ["%sx" % ahead, "[%s]" % figures]
    # Each place at most once, falling; a mark ahead of each term makes the first like the others.
    form = "".join(r"(?: \+ %s)?" % place for place in places)
    return text != "" and re.fullmatch(form, " + " + text) is not None


def nested(make, depth, core):
    thing = core
    for step in range(depth):
        thing = make(thing, step)
    return thing


def in_tuple(thing, step):
    return (thing,)


def in_list(thing, step):
    return [thing]


def in_turns(thing, step):
    return (1, thing) if step % 2 else [thing, 1]


def strangers(size):
    """Things that are no sums on a clock of this size."""
    plain = [None, True, False, 0, 1, 2, -1, size, 10 ** 40, "", "0", "1", "x", "x + 1", "(1,)"]
    lists = [[], [1], [0, 1], [1] * 9, [1] * 10, [()], [[]], [None], ["1"], [True]]
    wrong_parts = []
    for part in (-1, -size, size, size + 1, 10, 10 ** 40, -10 ** 40, True, False, None, "", "1", "0", (), (1,), [], [1]):
        wrong_parts += [(part,), (part, 1), (0, part, 1), (1, part), (1,) * 8 + (part,), (part,) + (1,) * 8]
    noughts_last = [(1,) * count + (0,) for count in range(9)] + [(0,) * count for count in range(1, 12)]
    long_ones = [(1,) * count for count in range(10, 40)] + [(0,) * count + (1,) for count in range(9, 40)]
    long_ones += [(size - 1,) * 10, (1,) * 17, (1,) + (0,) * 8 + (1,), (1,) * 1000, (1,) * 9 + (0,), (1,) * 9 + (None,)]
    deep = []
    for depth in (1, 2, 3, 10, 29, 30, 31, 35):
        for core in ((1,), [1], (), [], [()]):
            deep += [nested(make, depth, core) for make in (in_tuple, in_list, in_turns)]
        deep += [nested(in_list, depth, 1), nested(in_tuple, depth + 1, 1), nested(in_turns, depth, "x"),
                 nested(in_turns, depth, True), nested(in_turns, depth, None)]
    return plain + lists + wrong_parts + noughts_last + long_ones + deep


def drawn_sums(count, most, size, seed):
    """So many sums of up to most numbers, nought among them now and then, the same ones each time."""
    state = seed * 1000003 + size
    figures = []
    while len(figures) < count * (most + 2):
        state = (state * 6364136223846793005 + 1442695040888963407) % 2 ** 64
        figures.append(state >> 33)
    found = []
    for start in range(0, len(figures), most + 2):
        length = figures[start] % (most + 1)
        numbers = [figure % size for figure in figures[start + 1:start + 1 + length]]
        found.append(cut(numbers))
    return found


def long_sums(count, numbers, size, seed):
    """Drawn sums of just so many numbers."""
    drawn = drawn_sums(count, numbers - 1, size, seed)
    return [one + (0,) * (numbers - 1 - len(one)) + (1 + place % (size - 1),) for place, one in enumerate(drawn)]


def some_sums(size):
    """A short row of sums for going through pairs and triples: the edges, and some of all lengths."""
    top = size - 1
    edges = [(), (1,), (top,), (0, 1), (1, 1), (top, top), (1, 0, 1), (0, 0, top), (1,) * 9, (top,) * 9,
             (0,) * 8 + (1,), (1,) + (0,) * 7 + (top,), (0, 1, 0, 1), (1, top, 1, top, 1)]
    return edges + drawn_sums(16, 9, size, 5)


def whole_sums(length, size):
    """All whole sums of this length, in the order of tuples."""
    return [below + (1,) for below in itertools.product(range(size), repeat=length)]


def cut(numbers):
    numbers = list(numbers)
    while numbers and numbers[-1] == 0:
        numbers.pop()
    return tuple(numbers)


def added(one, other, size):
    return cut((a + b) % size for a, b in itertools.zip_longest(one, other, fillvalue=0))


def negative(one, size):
    return tuple(-number % size for number in one)


def multiplied(one, other, size):
    """Power by power, as the document tells it."""
    numbers = []
    for k in range(len(one) + len(other)):
        numbers.append(sum(one[i] * other[k - i] for i in range(len(one)) if 0 <= k - i < len(other)) % size)
    return cut(numbers)


def product(sums, size):
    found = (1,)
    for one in sums:
        found = multiplied(found, one, size)
    return found


def rest(one, other, size):
    """one, with fitting multiples of other taken away until it is shorter."""
    left = list(one)
    while len(left) >= len(other):
        often = next(n for n in range(size) if (left[-1] - n * other[-1]) % size == 0)
        shift = len(left) - len(other)
        for place, number in enumerate(other):
            left[shift + place] = (left[shift + place] - often * number) % size
        left.pop()
    return cut(left)


def divides(part, one, size):
    return rest(one, part, size) == ()


def whole_part(one, size, lengths):
    """The first whole sum of one of these lengths that divides one; None where all were tried in vain."""
    for length in lengths:
        for part in whole_sums(length, size):
            if divides(part, one, size):
                return part
    return None


def shares_by_trying(one, other, size):
    """Whether some whole sum of length 1 or more divides both, by going through all that could."""
    for length in range(1, max(len(one), len(other))):
        for part in whole_sums(length, size):
            if divides(part, one, size) and divides(part, other, size):
                return True
    return False


def shares(one, other, size):
    """The same without trying, for longer sums: what divides both divides the rest of the one by the other too."""
    while other != ():
        one, other = other, rest(one, other, size)
    return len(one) > 1


@functools.lru_cache(maxsize=None)
def whole_primes(length, size):
    """All whole sums of this length but the products of two shorter ones."""
    made = set()
    for shorter in range(1, length // 2 + 1):
        for one in whole_sums(shorter, size):
            for other in whole_sums(length - shorter, size):
                made.add(multiplied(one, other, size))
    return tuple(one for one in whole_sums(length, size) if one not in made)


def is_plain_sum(thing, size):
    """A sum by 0.4, of however many numbers; truths and lists are not let through."""
    if type(thing) is not tuple or any(type(number) is not int for number in thing):
        return False
    return all(0 <= number < size for number in thing) and (thing == () or thing[-1] != 0)


def is_plain(thing):
    """Tuples, texts, whole numbers, truths and None, and nothing else at any depth."""
    if type(thing) is tuple:
        return all(is_plain(part) for part in thing)
    return type(thing) in (str, int, bool, type(None))
