"""Stage 9: webs with groups of ties drawn together, and which webs are alike."""

from itertools import permutations

from cubewebs.errors import NoTie, TooGreat
from cubewebs.kinds import each_once, is_below, rising_below
from cubewebs.lying import addresses_of
from cubewebs.webs import far_table, renamed, web_of

MOST_FORMED = 6


def drawn_web(web, number):
    """The web with the ties of one group drawn together; else NoCube, NoTie."""
    return _web_by_names(web, drawn_names(web, number))


def drawn_names(web, number):
    """The new numbers of the old places of drawn_web; else NoCube, NoTie."""
    rows = addresses_of(web)
    if not is_below(number, len(rows[0])):
        raise NoTie()
    return _names_by_rows(rows, (number,))


def drawn_by(web, some):
    """The web with the ties of some groups drawn together at once; else NoCube, NoTie."""
    rows = addresses_of(web)
    if not rising_below(some, len(rows[0])):
        raise NoTie()
    return _web_by_names(web, _names_by_rows(rows, some))


def renaming_good(web, other, thing):
    """Whether the thing is a renaming of the one web to the other."""
    return each_once(thing, web[0]) and renamed(web, thing) == other


def first_renaming(web, other):
    """The first renaming of the one web to the other, None where there is none."""
    here = far_table(web)
    there = far_table(other)
    # Without as many places as far from as many others the search would be long and in vain.
    if sorted([_profile(row) for row in here]) != sorted([_profile(row) for row in there]):
        return None
    return _first_names(here, there, ())


def least_form(web):
    """The least web to which the web can be renamed; else TooGreat."""
    return min(_all_renamed(web))


def own_many(web):
    """How many renamings of the web to itself there are; else TooGreat."""
    return _all_renamed(web).count(web)


def _names_by_rows(rows, some):
    """Places become one where their addresses are alike but for the bits of some groups."""
    kept = [tuple([row[k] for k in range(len(row)) if k not in some]) for row in rows]
    firsts = [row for at, row in enumerate(kept) if row not in kept[:at]]
    return tuple([firsts.index(row) for row in kept])


def _web_by_names(web, names):
    """The web of the new places: both ends of a tie that was drawn together have one name."""
    ties = [(names[a], names[b]) for a, b in web[1] if names[a] != names[b]]
    return web_of(max(names) + 1, ties)


def _profile(row):
    """How far the others are from a place, in rising order, -1 where there is no way."""
    return sorted([-1 if steps is None else steps for steps in row])


def _first_names(here, there, names):
    """The first renaming that begins with these names, None where there is none."""
    at = len(names)
    if at == len(here):
        return names
    for name in range(len(there)):
        if name not in names and _fits(here[at], there[name], names):
            found = _first_names(here, there, (*names, name))
            if found is not None:
                return found
    return None


def _fits(row, other, names):
    """Whether one place may take the other's number: as far from all places that have new ones."""
    return _profile(row) == _profile(other) and all(row[k] == other[names[k]] for k in range(len(names)))


def _all_renamed(web):
    """What comes of all renamings of a web of few places."""
    if web[0] > MOST_FORMED:
        raise TooGreat(web[0], MOST_FORMED)
    return [renamed(web, names) for names in permutations(range(web[0]))]
