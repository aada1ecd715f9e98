"""Stage 6: middle places, majorities of bits, and the places nearest to some."""

from itertools import combinations

from cubewebs.addresses import refuse_no_lots
from cubewebs.errors import NoCube, NoPlace
from cubewebs.kinds import all_below, are_bits, is_rising, refuse_too_great
from cubewebs.together import refuse_apart
from cubewebs.webs import far_table, refuse_no_place

MOST_FILLED = 5
MOST_NEARED = 12


def middles_of(web, one, other, third):
    """The places that are between each two of the three; else Apart, NoPlace."""
    refuse_apart(web)
    refuse_no_place(web, one)
    refuse_no_place(web, other)
    refuse_no_place(web, third)
    return _middles(far_table(web), one, other, third)


def has_middles(web):
    """Whether of any three places just one is between each two of them; else Apart."""
    return first_gap(web) is None


def gap_good(web, thing):
    """Whether the thing is a gap; else Apart."""
    refuse_apart(web)
    if not all_below(thing, 3, web[0]) or not is_rising(thing):
        return False
    return _is_gap(far_table(web), thing)


def first_gap(web):
    """The first gap, None where there is none; else Apart."""
    refuse_apart(web)
    far = far_table(web)
    for three in combinations(range(web[0]), 3):
        if _is_gap(far, three):
            return three
    return None


def majority(one, other, third):
    """The bits that two of the three tuples have, or all three; else NoCube."""
    if not are_bits((one, other, third), 3):
        raise NoCube()
    return tuple([1 if a + b + c > 1 else 0 for a, b, c in zip(one, other, third)])


def filled_bits(lots):
    """The rising tuple of all that come of the lots by majorities; else NoCube, TooGreat."""
    refuse_no_lots(lots)
    width = len(lots[0])
    refuse_too_great(width, MOST_FILLED)
    # Majorities bring no two bits together that are not together in one of the lots already; and
    # what has no other two bits together than these comes by majorities. So it is built bit by bit.
    filled = [()]
    for _ in range(width):
        longer = [(*row, bit) for row in filled for bit in (0, 1)]
        filled = [row for row in longer if _last_fits(lots, row)]
    return tuple(filled)


def nearest_of(web, places):
    """The places from which the ties to all in the list are the fewest; else Apart, NoPlace."""
    refuse_apart(web)
    if not _are_places(web, places):
        raise NoPlace()
    far = far_table(web)
    ties = [sum([row[place] for place in places]) for row in far]
    fewest = min(ties)
    return tuple([place for place in range(web[0]) if ties[place] == fewest])


def _middles(far, a, b, c):
    # By way of a place two others are never nearer than they are far apart. So whether it is between
    # each two of the three shows in the sum of the three ways, in which each of its own counts twice.
    due = far[a][b] + far[b][c] + far[a][c]
    return tuple([place for place in range(len(far)) if 2 * (far[a][place] + far[b][place] + far[c][place]) == due])


def _is_gap(far, three):
    a, b, c = three
    return len(_middles(far, a, b, c)) != 1


def _last_fits(lots, row):
    """Whether one of the lots has the last bit of the row together with each other one, and with itself."""
    last = len(row) - 1
    return all((row[k], row[last]) in _pairs_at(lots, k, last) for k in range(len(row)))


def _pairs_at(lots, one, other):
    """What the lots have at two bits."""
    return [(row[one], row[other]) for row in lots]


def _are_places(web, thing):
    """Whether it is a list of one to twelve places, perhaps alike."""
    if not isinstance(thing, list) or not 1 <= len(thing) <= MOST_NEARED:
        return False
    return all_below(tuple(thing), len(thing), web[0])
