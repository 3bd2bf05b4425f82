"""What a number is, and what a sum is."""

MOST_NUMBERS = 9


def is_number(thing, size):
    # Python counts truths among the ints; here they are no numbers.
    if isinstance(thing, bool) or not isinstance(thing, int):
        return False
    return 0 <= thing < size


def is_sum(thing, size):
    if not isinstance(thing, tuple) or len(thing) > MOST_NUMBERS:
        return False
    if not all([is_number(part, size) for part in thing]):
        return False
    # A sum has one form alone: no 0 stands above its highest power.
    return len(thing) == 0 or thing[-1] != 0
