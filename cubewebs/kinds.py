"""Helper of all files: of what kind a thing is, whatever is handed in, and what there would be too many of."""

from cubewebs.errors import TooGreat

MOST_BITS = 12
MOST_LOTS = 8


def is_whole(thing):
    """Whether it is a whole number: Python counts truths as numbers, the document does not."""
    return isinstance(thing, int) and not isinstance(thing, bool)


def is_below(thing, many):
    """Whether it is a whole number from 0 to many less 1: a place, or the number of a tie."""
    return is_whole(thing) and 0 <= thing < many


def all_below(thing, size, many):
    """Whether it is a tuple of just so many whole numbers, each from 0 to many less 1."""
    if not isinstance(thing, tuple) or len(thing) != size:
        return False
    return all(is_below(part, many) for part in thing)


def is_rising(numbers):
    """Whether each is greater than the one ahead, of things that can be compared."""
    return all(numbers[k] < numbers[k + 1] for k in range(len(numbers) - 1))


def rising_below(thing, many):
    """Whether it is a rising tuple of whole numbers from 0 to many less 1, perhaps none."""
    return isinstance(thing, tuple) and all_below(thing, len(thing), many) and is_rising(thing)


def each_once(thing, many):
    """Whether it is a tuple with each whole number from 0 to many less 1 once."""
    return all_below(thing, many, many) and len(set(thing)) == many


def are_bits(thing, size):
    """Whether it is a tuple of so many tuples of bits, all of as many bits, twelve at most."""
    if not isinstance(thing, tuple) or len(thing) != size:
        return False
    if not all(isinstance(row, tuple) for row in thing):
        return False
    width = len(thing[0])
    return width <= MOST_BITS and all(all_below(row, width, 2) for row in thing)


def are_lots(thing):
    """Whether it is lots of bits: one to eight unlike tuples of bits, all of as many."""
    if not isinstance(thing, tuple) or not 1 <= len(thing) <= MOST_LOTS:
        return False
    return are_bits(thing, len(thing)) and len(set(thing)) == len(thing)


def refuse_too_great(many, most):
    """TooGreat where there would be more than most."""
    if many > most:
        raise TooGreat(many, most)
