"""The writing of a sum."""

from primefold.errors import NoSum
from primefold.things import is_sum

NOUGHT = "0"
BETWEEN = " + "


def written_term(number, power):
    if power == 0:
        return str(number)
    ahead = "" if number == 1 else str(number)
    behind = "" if power == 1 else str(power)
    return ahead + "x" + behind


def written(thing, size):
    if not is_sum(thing, size):
        raise NoSum("what is no sum is not written")
    if len(thing) == 0:
        return NOUGHT
    terms = []
    for power in range(len(thing) - 1, -1, -1):
        if thing[power] != 0:
            terms.append(written_term(thing[power], power))
    return BETWEEN.join(terms)
