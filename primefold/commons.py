"""The greatest common part of two sums, and how it is made of both."""

from primefold.reckoning import ONE, minus, parted, scaled, times, turned_number


def row_less(row, below, size):
    # All three sums lose the same many of those below, so that what holds of both rows holds of the new one.
    many = parted(row[0], below[0], size)[0]
    return [minus(part, times(many, lower, size), size) for part, lower in zip(row, below)]


def common(one, other, size):
    # In each row the second sum times one, and the third times other, added, are the first.
    row = [one, ONE, ()]
    below = [other, (), ONE]
    while len(below[0]) > 0:
        following = row_less(row, below, size)
        row = below
        below = following
    if len(row[0]) == 0:
        return ((), (), ())
    turned = turned_number(row[0][-1], size)
    return tuple([scaled(part, turned, size) for part in row])
