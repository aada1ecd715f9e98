"""Stage 5: which webs lie in a cube, and the papers that show it."""

from cubewebs.addresses import addresses_good
from cubewebs.errors import NoCube
from cubewebs.kinds import all_below
from cubewebs.together import break_good, first_break, groups_of, is_odd_ring, odd_ring
from cubewebs.webs import far_of, far_table, is_joined, web_good


def paper_good(web, thing):
    """Whether the thing is a paper of the web."""
    if not isinstance(thing, tuple) or len(thing) < 2:
        return False
    if thing[0] == "lies":
        return len(thing) == 2 and addresses_good(web, thing[1])
    if thing[0] == "odd":
        return len(thing) == 2 and is_odd_ring(web, thing[1])
    if thing[0] == "apart":
        return _are_apart(web, thing[1:])
    if thing[0] == "break":
        return is_joined(web) and break_good(web, thing[1:])
    return False


def paper_of(web):
    """Some paper of the web."""
    paper = _paper_against(web)
    if paper is None:
        return ("lies", _addresses_by_groups(web))
    return paper


def lies(web):
    """Whether the web lies in a cube."""
    return _paper_against(web) is None


def addresses_of(web):
    """The addresses with as few bits as can be, noughts alone at place 0; else NoCube."""
    refuse_no_cube(web)
    return _addresses_by_groups(web)


def refuse_no_cube(web):
    """NoCube where the web lies in no cube: what is no web at all lies in none either."""
    if not web_good(web) or not lies(web):
        raise NoCube()


def _are_apart(web, thing):
    return all_below(thing, 2, web[0]) and far_of(web, thing[0], thing[1]) is None


def _paper_against(web):
    """Some paper that shows that the web does not lie in a cube, None where it does."""
    row = far_table(web)[0]
    if None in row:
        return ("apart", 0, row.index(None))
    ring = odd_ring(web)
    if ring is not None:
        return ("odd", ring)
    found = first_break(web)
    if found is not None:
        return ("break", *found)
    return None


def _addresses_by_groups(web):
    """The addresses of a web that lies in a cube, the bits by the groups of its ties."""
    far = far_table(web)
    leads = [web[1][group[0]] for group in groups_of(web)]
    return tuple([tuple([_bit_at(far, lead, place) for lead in leads]) for place in range(web[0])])


def _bit_at(far, tie, place):
    """1 where the tie parts the place from place 0: any tie of a group parts them alike."""
    a, b = tie
    return 1 if (far[0][a] < far[0][b]) != (far[place][a] < far[place][b]) else 0
