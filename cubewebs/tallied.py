"""Stage 7: all addresses of webs that lie in a cube."""

from itertools import combinations, permutations
from math import perm

from cubewebs.addresses import columns_of, put_bits, turned_bits
from cubewebs.kinds import MOST_BITS, refuse_too_great
from cubewebs.lying import addresses_of, refuse_no_cube
from cubewebs.together import groups_of, refuse_no_tie
from cubewebs.webs import refuse_no_place

MOST_LISTED = 3


def fewest_bits(web):
    """How few bits addresses of the web have; else NoCube."""
    refuse_no_cube(web)
    return len(groups_of(web))


def bit_of(web, number):
    """The number of the group of the tie; else NoCube, NoTie."""
    refuse_no_cube(web)
    refuse_no_tie(web, number)
    found = [at for at, group in enumerate(groups_of(web)) if number in group]
    return found[0]


def addresses_many(web, bits):
    """How many addresses of so many bits the web has; else NoCube, TooGreat."""
    fewest = fewest_bits(web)
    refuse_too_great(bits, MOST_BITS)
    if bits < fewest:
        return 0
    # Each group has one of the bits, another than other groups; the bits left over are alike in
    # all places; and each bit of them all may be turned.
    return perm(bits, fewest) << bits


def first_addresses(web, bits):
    """The first addresses of so many bits, None where there are none; else NoCube, TooGreat."""
    rows = addresses_of(web)
    refuse_too_great(bits, MOST_BITS)
    spare = bits - len(rows[0])
    if spare < 0:
        return None
    # Place 0 has noughts alone, and the next places have their ones as far behind as can be
    # just where the columns rise: so the bits left over, noughts everywhere, stand ahead.
    ranked = sorted([(column, number) for number, column in enumerate(columns_of(rows))])
    behind = put_bits(rows, tuple([number for _, number in ranked]))
    return tuple([(0,) * spare + row for row in behind])


def all_addresses(web):
    """The rising list of all addresses with as few bits as can be; else NoCube, TooGreat."""
    rows = addresses_of(web)
    fewest = len(rows[0])
    refuse_too_great(fewest, MOST_LISTED)
    turns = [turn for size in range(fewest + 1) for turn in combinations(range(fewest), size)]
    put = [put_bits(rows, order) for order in permutations(range(fewest))]
    return sorted([turned_bits(told, turn) for told in put for turn in turns])


def from_place(web, place):
    """The addresses with as few bits as can be, noughts alone at the place; else NoCube, NoPlace."""
    rows = addresses_of(web)
    refuse_no_place(web, place)
    row = rows[place]
    return turned_bits(rows, tuple([number for number in range(len(row)) if row[number] == 1]))


def weight_table(web):
    """By places, how many bits 1 the address has; else NoCube."""
    return [sum(row) for row in addresses_of(web)]
