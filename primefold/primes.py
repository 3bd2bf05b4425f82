"""Whether a sum is prime, how it is split, its primes, and how many primes there are."""

from primefold.commons import common
from primefold.errors import NoPart
from primefold.reckoning import ONE, lone_power, made_whole, minus, parted
from primefold.reckoning import rest_by, roots, scaled, trimmed, turned_number


def slope(total, size):
    # A prime that is in the total twice or oftener divides this sum as well.
    numbers = [power * number % size for power, number in enumerate(total)]
    return trimmed(numbers[1:])


def cleared(row, kept, size):
    # What is done to the left sum is done to the making, so that it goes on telling how the left one is made.
    left = row[0]
    making = row[1]
    while len(left) > 0 and len(left) in kept:
        above = kept[len(left)]
        often = left[-1]
        left = minus(left, scaled(above[0], often, size), size)
        making = minus(making, scaled(above[1], often, size), size)
    return (left, making)


def steady_sum(total, size):
    # A steady sum is by total its own power of the size. The power of the size of a sum is the one of each of its
    # terms, added; so each power of x is moved by itself, and a mixture of them that is not moved at all is steady.
    # Numbers are always steady: the mixtures begin with x, and None is told if there are numbers alone.
    kept = {}
    for place in range(1, len(total) - 1):
        start = lone_power(place)
        moved = rest_by(lone_power(place * size), total, size)
        row = cleared((minus(moved, start, size), start), kept, size)
        if len(row[0]) == 0:
            return row[1]
        turned = turned_number(row[0][-1], size)
        kept[len(row[0])] = (scaled(row[0], turned, size), scaled(row[1], turned, size))
    return None


def part_by_steady(total, size):
    steady = steady_sum(total, size)
    if steady is None:
        return None
    # By each prime of total a steady sum is a number, and not by all of them the same one: no part is all of total.
    less = [minus(steady, scaled(ONE, number, size), size) for number in range(size)]
    return max([common(total, one, size)[0] for one in less], key=len)


def part_of(total, size):
    if len(total) < 3:
        return None
    # Most sums that split have a root, and a root is found much faster than another part.
    found = roots(total, size)
    if len(found) > 0:
        return ((size - found[0]) % size, 1)
    sloping = slope(total, size)
    if len(sloping) == 0:
        # Every power in it is a multiple of the size, so total is the power of the size of this sum.
        return total[::size]
    shared = common(total, sloping, size)[0]
    if len(shared) > 1:
        return shared
    return part_by_steady(total, size)


def split(total, size):
    part = part_of(total, size)
    if part is None:
        return None
    return (part, parted(total, part, size)[0])


def is_prime(total, size):
    return len(total) > 1 and part_of(total, size) is None


def prime_counts(total, size):
    counts = {}
    waiting = [total]
    while len(waiting) > 0:
        one = waiting.pop()
        pair = split(one, size)
        if pair is not None:
            waiting.extend(pair)
        elif len(one) > 1:
            prime = made_whole(one, size)
            counts[prime] = counts.get(prime, 0) + 1
    return counts


def factors(total, size):
    if len(total) == 0:
        raise NoPart("nought has no primes")
    counts = prime_counts(total, size)
    ordered = sorted(counts, key=lambda prime: (len(prime), prime))
    return (total[-1], tuple([(prime, counts[prime]) for prime in ordered]))


def whole_sums(length, size):
    # Each step keeps the order of tuples: starts that come first stay first, whatever number comes behind.
    starts = [()]
    for step in range(length):
        longer = []
        for start in starts:
            longer.extend([start + (number,) for number in range(size)])
        starts = longer
    return [start + ONE for start in starts]


def primes(length, size):
    return tuple([one for one in whole_sums(length, size) if is_prime(one, size)])


def count_primes(length, size):
    # All whole sums of a length are as many as the primes of each length that divides it, so often as this is long.
    counts = [0]
    whole = 1
    for reached in range(1, length + 1):
        whole = whole * size
        shorter = sum([each * counts[each] for each in range(1, reached) if reached % each == 0])
        counts.append((whole - shorter) // reached)
    return counts[-1]
