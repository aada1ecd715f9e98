"""Stage 9: webs with groups of ties drawn together, and which webs are alike."""

from cubewebs.errors import NoTie
from cubewebs.kinds import each_once, is_below, refuse_too_great, rising_below
from cubewebs.lying import addresses_of
from cubewebs.webs import far_table, near_table, renamed, web_of

MOST_FORMED = 6


def drawn_web(web, number):
    """The web with the ties of one group drawn together; else NoCube, NoTie."""
    return _web_by_names(web, drawn_names(web, number))


def drawn_names(web, number):
    """The new numbers of the old places of drawn_web; else NoCube, NoTie."""
    rows = addresses_of(web)
    if not is_below(number, len(rows[0])):
        raise NoTie()
    return _names_by_rows(rows, (number,))


def drawn_by(web, some):
    """The web with the ties of some groups drawn together at once; else NoCube, NoTie."""
    rows = addresses_of(web)
    if not rising_below(some, len(rows[0])):
        raise NoTie()
    return _web_by_names(web, _names_by_rows(rows, some))


def renaming_good(web, other, thing):
    """Whether the thing is a renaming of the one web to the other."""
    return each_once(thing, web[0]) and renamed(web, thing) == other


def first_renaming(web, other):
    """The first renaming of the one web to the other, None where there is none."""
    here = far_table(web)
    there = far_table(other)
    # Without as many places as far from as many others the search would be long and in vain.
    if sorted([_profile(row) for row in here]) != sorted([_profile(row) for row in there]):
        return None
    return _first_names(here, there, ())


def least_form(web):
    """The least web to which the web can be renamed; else TooGreat."""
    order, _ = _least_orders(web)[0]
    return renamed(web, tuple([order.index(place) for place in range(web[0])]))


def own_many(web):
    """How many renamings of the web to itself there are; else TooGreat."""
    # There are as many as there are orders of its places that make one and the same web.
    return sum(ways for _, ways in _least_orders(web))


def _names_by_rows(rows, some):
    """Places become one where their addresses are alike but for the bits of some groups."""
    kept = [tuple([row[k] for k in range(len(row)) if k not in some]) for row in rows]
    firsts = [row for at, row in enumerate(kept) if row not in kept[:at]]
    return tuple([firsts.index(row) for row in kept])


def _web_by_names(web, names):
    """The web of the new places: both ends of a tie that was drawn together have one name."""
    ties = [(names[a], names[b]) for a, b in web[1] if names[a] != names[b]]
    return web_of(max(names) + 1, ties)


def _profile(row):
    """How far the others are from a place, in rising order, -1 where there is no way."""
    return sorted([-1 if steps is None else steps for steps in row])


def _first_names(here, there, names):
    """The first renaming that begins with these names, None where there is none."""
    at = len(names)
    if at == len(here):
        return names
    for name in range(len(there)):
        if name not in names and _fits(here[at], there[name], names):
            found = _first_names(here, there, (*names, name))
            if found is not None:
                return found
    return None


def _fits(row, other, names):
    """Whether one place may take the other's number: as far from all places that have new ones."""
    return _profile(row) == _profile(other) and all(row[k] == other[names[k]] for k in range(len(names)))


def _least_orders(web):
    """Orders of the places that make the least web, each with how many it stands for."""
    refuse_too_great(web[0], MOST_FORMED)
    near = near_table(web)
    twins = _least_twins(near)
    # Each order as far as it goes, and behind it lots of places that may stand in any order yet.
    begun = [((), [list(range(web[0]))], 1)]
    for _ in range(web[0]):
        longer = []
        for order, lots, ways in begun:
            for place, alike in _unlike_ones(twins, lots[0]):
                tied, parted = _parted(near[place], lots, place)
                longer.append((tied, (*order, place), parted, ways * alike))
        # The web is the less, the more of those that stand soonest behind its place are tied to it.
        most = max([tied for tied, _, _, _ in longer])
        begun = [(order, lots, ways) for tied, order, lots, ways in longer if tied == most]
    return [(order, ways) for order, _, ways in begun]


def _least_twins(near):
    """By places, the least one tied to the same others: these two may change places everywhere."""
    return [min([b for b in range(a + 1) if _are_twins(near, a, b)]) for a in range(len(near))]


def _are_twins(near, a, b):
    return [place for place in near[a] if place != b] == [place for place in near[b] if place != a]


def _unlike_ones(twins, lot):
    """The first of each of the lot's twins, with how many there are."""
    leasts = [twins[place] for place in lot]
    return [(place, leasts.count(leasts[at])) for at, place in enumerate(lot) if leasts.index(leasts[at]) == at]


def _parted(near, lots, place):
    """How many of each lot are tied to the place, and the lots without it, these ahead of the others."""
    tied = []
    parted = []
    for lot in lots:
        ahead = [other for other in lot if other in near]
        behind = [other for other in lot if other not in near and other != place]
        tied.append(len(ahead))
        parted = parted + [part for part in (ahead, behind) if part]
    return (tied, parted)
