"""Stage 1: webs, how far their places are from one another, and what lies between."""

from cubewebs.errors import NoPlace, NoWeb
from cubewebs.kinds import all_below, each_once, is_below, is_rising, is_whole

MOST_PLACES = 8


def web_good(thing):
    """Whether it is a web."""
    if not isinstance(thing, tuple) or len(thing) != 2:
        return False
    many, ties = thing
    if not _many_good(many) or not isinstance(ties, tuple):
        return False
    # Only pairs of places are sure to compare, so whether they rise is asked last.
    return all(_tie_good(many, tie) for tie in ties) and is_rising(ties)


def web_of(many, things):
    """The web of so many places and of the pairs of places in the list; else NoWeb."""
    if not _many_good(many):
        raise NoWeb(-1)
    for at, thing in enumerate(things):
        if not _pair_good(many, thing):
            raise NoWeb(at)
    return (many, tuple(sorted({(min(a, b), max(a, b)) for a, b in things})))


def near_of(web, place):
    """The rising tuple of the places tied to the place; else NoPlace."""
    refuse_no_place(web, place)
    return tuple(near_table(web)[place])


def far_of(web, one, other):
    """How many ties the least way has, None where there is no way; else NoPlace."""
    refuse_no_place(web, one)
    refuse_no_place(web, other)
    return _far_row(near_table(web), one)[other]


def far_table(web):
    """The list of the lists of how far places are from one another, by places."""
    near = near_table(web)
    return [_far_row(near, place) for place in range(web[0])]


def is_joined(web):
    """Whether there is a way between any two places."""
    return None not in _far_row(near_table(web), 0)


def least_way(web, one, other):
    """The first least way, None where there is no way; else NoPlace."""
    if far_of(web, one, other) is None:
        return None
    near = near_table(web)
    far = _far_row(near, other)
    way = [one]
    here = one
    while here != other:
        # Places tied to one place stand in rising order: the first nearer one is the least.
        nearer = [place for place in near[here] if far[place] < far[here]]
        here = nearer[0]
        way.append(here)
    return tuple(way)


def ways_many(web, one, other):
    """How many least ways there are, 0 where there is no way; else NoPlace."""
    if far_of(web, one, other) is None:
        return 0
    near = near_table(web)
    far = _far_row(near, one)
    counts = [0] * web[0]
    counts[one] = 1
    for steps in range(1, far[other] + 1):
        for place in range(web[0]):
            if far[place] == steps:
                counts[place] = sum(counts[back] for back in near[place] if far[back] == steps - 1)
    return counts[other]


def between(web, one, other):
    """The rising tuple of the places in least ways, () where there is no way; else NoPlace."""
    steps = far_of(web, one, other)
    if steps is None:
        return ()
    near = near_table(web)
    here = _far_row(near, one)
    there = _far_row(near, other)
    reached = [place for place in range(web[0]) if here[place] is not None]
    return tuple([place for place in reached if here[place] + there[place] == steps])


def way_good(web, one, other, thing):
    """Whether the thing is a least way from the one place to the other; else NoPlace."""
    steps = far_of(web, one, other)
    if steps is None or not all_below(thing, steps + 1, web[0]):
        return False
    if thing[0] != one or thing[-1] != other:
        return False
    return all(is_tied(web, thing[k], thing[k + 1]) for k in range(steps))


def renamed(web, names):
    """The web in which each place has the number at its place in names; else NoPlace."""
    many, ties = web
    if not each_once(names, many):
        raise NoPlace()
    return web_of(many, [(names[a], names[b]) for a, b in ties])


def is_tied(web, one, other):
    """Whether a tie leads from the one place to the other."""
    return (min(one, other), max(one, other)) in web[1]


def refuse_no_place(web, place):
    """NoPlace where what is handed in for a place is none."""
    if not is_below(place, web[0]):
        raise NoPlace()


def near_table(web):
    """By places, the places tied to each: they rise, since the ties do."""
    many, ties = web
    near = [[] for _ in range(many)]
    for a, b in ties:
        near[a].append(b)
        near[b].append(a)
    return near


def _many_good(many):
    return is_whole(many) and 1 <= many <= MOST_PLACES


def _pair_good(many, thing):
    return all_below(thing, 2, many) and thing[0] != thing[1]


def _tie_good(many, thing):
    return all_below(thing, 2, many) and thing[0] < thing[1]


def _far_row(near, start):
    """By places, how far each is from the start, None where there is no way."""
    row = [None] * len(near)
    row[start] = 0
    border = [start]
    while border:
        beyond = []
        for here in border:
            for there in near[here]:
                if row[there] is None:
                    row[there] = row[here] + 1
                    beyond.append(there)
        border = beyond
    return row
