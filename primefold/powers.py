"""Powers, turned sums and rests, by a sum."""

from primefold.commons import common
from primefold.errors import NoPart
from primefold.reckoning import ONE, plus, rest_by, times


def power(base, number, by, size):
    # Squaring goes through the number's binary figures: as many steps as it has, however great it is.
    reached = rest_by(ONE, by, size)
    square = rest_by(base, by, size)
    left = number
    while left > 0:
        if left % 2 == 1:
            reached = rest_by(times(reached, square, size), by, size)
        square = rest_by(times(square, square, size), by, size)
        left = left // 2
    return reached


def inverse(base, by, size):
    shared = common(base, by, size)
    if shared[0] != ONE:
        raise NoPart("the sum and by have a common part")
    return rest_by(shared[1], by, size)


def both(one, first, other, second, size):
    shared = common(one, other, size)
    if shared[0] != ONE:
        raise NoPart("one and other have a common part")
    # What makes 1 of both splits it in two: the one share has the rests 0 and 1, the other one 1 and 0.
    from_one = times(shared[1], one, size)
    from_other = times(shared[2], other, size)
    found = plus(times(first, from_other, size), times(second, from_one, size), size)
    return rest_by(found, times(one, other, size), size)
