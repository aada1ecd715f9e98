"""Stage 8: webs made of others, and lots of bits made of others likewise."""

from cubewebs.addresses import refuse_no_lots
from cubewebs.errors import NoLine, NoPlace
from cubewebs.kinds import MOST_BITS, MOST_LOTS, refuse_too_great, rising_below
from cubewebs.webs import MOST_PLACES, refuse_no_place, web_of


def pairs_web(one, other):
    """The web of the pairs of a place of the one and a place of the other; else TooGreat."""
    size = other[0]
    many = one[0] * size
    refuse_too_great(many, MOST_PLACES)
    within = [(i * size + a, i * size + b) for i in range(one[0]) for a, b in other[1]]
    across = [(a * size + j, b * size + j) for a, b in one[1] for j in range(size)]
    return web_of(many, within + across)


def joined_at(one, place, other, there):
    """The web of both, the other's place being the one's; else NoPlace, TooGreat."""
    refuse_no_place(one, place)
    refuse_no_place(other, there)
    many = one[0] + other[0] - 1
    refuse_too_great(many, MOST_PLACES)
    names = [place if k == there else one[0] + _number_without(there, k) for k in range(other[0])]
    return web_of(many, [*one[1]] + [(names[a], names[b]) for a, b in other[1]])


def hung_at(web, place):
    """The web with a place more, tied to this one alone; else NoPlace, TooGreat."""
    refuse_no_place(web, place)
    many = web[0]
    refuse_too_great(many + 1, MOST_PLACES)
    return web_of(many + 1, [*web[1], (place, many)])


def doubled(web, lot):
    """The web with a new place for each of the lot, tied to it and as it; else NoPlace, TooGreat."""
    if not rising_below(lot, web[0]) or not lot:
        raise NoPlace()
    many = web[0]
    refuse_too_great(many + len(lot), MOST_PLACES)
    names = {place: many + at for at, place in enumerate(lot)}
    new = [(names[a], names[b]) for a, b in web[1] if a in names and b in names]
    return web_of(many + len(lot), [*web[1]] + [(place, names[place]) for place in lot] + new)


def pairs_bits(one, other):
    """For each of the one and each of the other the bits of both; else NoCube, TooGreat."""
    refuse_no_lots(one)
    refuse_no_lots(other)
    _refuse_great_lots(len(one) * len(other), len(one[0]) + len(other[0]))
    return tuple([row + more for row in one for more in other])


def doubled_bits(lots, numbers):
    """The lots with a bit 0 more, then those of the numbers with a 1; else NoCube, NoLine, TooGreat."""
    refuse_no_lots(lots)
    if not rising_below(numbers, len(lots)) or not numbers:
        raise NoLine()
    _refuse_great_lots(len(lots) + len(numbers), len(lots[0]) + 1)
    return tuple([(*row, 0) for row in lots] + [(*lots[number], 1) for number in numbers])


def without_place(web, place):
    """The web without the place, greater ones numbered less by one; else NoPlace."""
    refuse_no_place(web, place)
    if web[0] == 1:
        raise NoPlace()
    kept = [(a, b) for a, b in web[1] if place not in (a, b)]
    return web_of(web[0] - 1, [(_number_without(place, a), _number_without(place, b)) for a, b in kept])


def _number_without(gone, place):
    """The number of another place when one is gone."""
    return place - 1 if place > gone else place


def _refuse_great_lots(many, width):
    refuse_too_great(many, MOST_LOTS)
    refuse_too_great(width, MOST_BITS)
