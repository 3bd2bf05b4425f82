"""The reading of a sum's writing, and of nothing else."""

from primefold.errors import NoText
from primefold.things import MOST_NUMBERS
from primefold.writing import BETWEEN, NOUGHT, written_term


def known_terms(size):
    # Terms are looked up among the written ones, so that no second spelling is ever read.
    known = {}
    for power in range(MOST_NUMBERS):
        for number in range(1, size):
            known[written_term(number, power)] = (number, power)
    return known


def with_term(numbers, number, power):
    # The terms come from the lowest power on; a power that is passed already stands out of order.
    if power < len(numbers):
        raise NoText("the powers do not fall")
    return numbers + (0,) * (power - len(numbers)) + (number,)


def read(text, size):
    if text == NOUGHT:
        return ()
    known = known_terms(size)
    numbers = ()
    for term in reversed(text.split(BETWEEN)):
        if term not in known:
            raise NoText("a part of the text is no written term")
        found = known[term]
        numbers = with_term(numbers, found[0], found[1])
    return numbers
