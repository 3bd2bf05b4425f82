"""Sums added, multiplied and parted, and their values."""

from primefold.errors import NoPart

ONE = (1,)


def trimmed(numbers):
    # A sum has one form alone: what fell away at the highest powers is no part of it.
    count = len(numbers)
    while count > 0 and numbers[count - 1] == 0:
        count = count - 1
    return tuple(numbers[:count])


def lone_power(places):
    return (0,) * places + ONE


def scaled(one, number, size):
    return trimmed([number * part % size for part in one])


def turned_number(number, size):
    # The clocks are small, and their sizes prime: trying is enough, and finds one for each number but 0.
    return [other for other in range(1, size) if number * other % size == 1][0]


def made_whole(one, size):
    return scaled(one, turned_number(one[-1], size), size)


def plus(one, other, size):
    numbers = [0] * max(len(one), len(other))
    for power, number in enumerate(one):
        numbers[power] = number
    for power, number in enumerate(other):
        numbers[power] = (numbers[power] + number) % size
    return trimmed(numbers)


def minus(one, other, size):
    return plus(one, scaled(other, size - 1, size), size)


def times(one, other, size):
    numbers = [0] * (len(one) + len(other))
    for power, number in enumerate(one):
        for place, factor in enumerate(other):
            numbers[power + place] = (numbers[power + place] + number * factor) % size
    return trimmed(numbers)


def parted(one, other, size):
    if len(other) == 0:
        raise NoPart("nothing is parted by nought")
    turned = turned_number(other[-1], size)
    left = list(one)
    many = [0] * len(one)
    for shift in range(len(one) - len(other), -1, -1):
        often = left[shift + len(other) - 1] * turned % size
        many[shift] = often
        for place, number in enumerate(other):
            left[shift + place] = (left[shift + place] - often * number) % size
    return (trimmed(many), trimmed(left))


def rest_by(one, other, size):
    return parted(one, other, size)[1]


def value(one, number, size):
    reached = 0
    for part in reversed(one):
        reached = (reached * number + part) % size
    return reached


def roots(one, size):
    return tuple([number for number in range(size) if value(one, number, size) == 0])
