"""Stage 3: ties of joined webs that go together, groups of them, breaks and odd rings."""

from cubewebs.errors import Apart, NoTie
from cubewebs.kinds import all_below, is_below
from cubewebs.webs import far_table, is_joined, is_tied, least_way, web_good

RING_SIZES = (3, 5, 7)


def together(web, one, other):
    """Whether the ties of the two numbers go together; else Apart, NoTie."""
    refuse_apart(web)
    refuse_no_tie(web, one)
    refuse_no_tie(web, other)
    return _go_together(far_table(web), web[1][one], web[1][other])


def with_of(web, number):
    """The rising list of the numbers of ties that go with one; else Apart, NoTie."""
    refuse_apart(web)
    refuse_no_tie(web, number)
    row = _together_table(web)[number]
    return [other for other in range(len(row)) if row[other]]


def groups_of(web):
    """The list of the groups of ties, by their least numbers; else Apart."""
    refuse_apart(web)
    table = _together_table(web)
    groups = []
    grouped = {}
    for number in range(len(table)):
        if number not in grouped:
            group = _group_from(table, number)
            groups.append(group)
            for other in group:
                grouped[other] = True
    return groups


def break_good(web, thing):
    """Whether the thing is a break; else Apart."""
    refuse_apart(web)
    if not all_below(thing, 3, len(web[1])):
        return False
    e, f, g = thing
    table = _together_table(web)
    return table[e][f] and table[f][g] and not table[e][g]


def first_break(web):
    """The first break, None where the ties lead on; else Apart."""
    refuse_apart(web)
    table = _together_table(web)
    for e in range(len(table)):
        for f in range(len(table)):
            if table[e][f]:
                left = [g for g in range(len(table)) if table[f][g] and not table[e][g]]
                if left:
                    return (e, f, left[0])
    return None


def odd_good(web, thing):
    """Whether the thing is an odd ring; else Apart."""
    refuse_apart(web)
    return is_odd_ring(web, thing)


def odd_ring(web):
    """Some odd ring, of the least size that there is, None where there is none; else Apart."""
    refuse_apart(web)
    far = far_table(web)
    level = [
        (far[top][a], top, a, b)
        for top in range(web[0])
        for a, b in web[1]
        if far[top][a] == far[top][b]
    ]
    if not level:
        return None
    # Two least ways down from the top to a tie as far at both ends make an odd round;
    # the shortest of all rounds meets no place twice, or a part of it were a shorter one.
    _, top, a, b = min(level)
    return least_way(web, top, a) + least_way(web, b, top)[:-1]


def sides_of(web):
    """A 0 or 1 for each place, unlike at tied ones, None where there is an odd ring; else Apart."""
    refuse_apart(web)
    sides = tuple([steps & 1 for steps in far_table(web)[0]])
    if any(sides[a] == sides[b] for a, b in web[1]):
        return None
    return sides


def is_odd_ring(web, thing):
    """Whether the thing is an odd ring of the web, joined or not."""
    if not isinstance(thing, tuple) or len(thing) not in RING_SIZES:
        return False
    if not all_below(thing, len(thing), web[0]) or len(set(thing)) != len(thing):
        return False
    # At k 0 the place ahead, thing[-1], is the last one, so the ring is closed.
    return all(is_tied(web, thing[k - 1], thing[k]) for k in range(len(thing)))


def refuse_apart(web):
    """Apart where the web is not joined: what is no web at all is no joined one either."""
    if not web_good(web) or not is_joined(web):
        raise Apart()


def refuse_no_tie(web, number):
    """NoTie where what is handed in for a tie's number is none."""
    if not is_below(number, len(web[1])):
        raise NoTie()


def _go_together(far, one, other):
    a, b = one
    c, d = other
    return far[a][c] + far[b][d] != far[a][d] + far[b][c]


def _together_table(web):
    """By the numbers of two ties, whether they go together."""
    far = far_table(web)
    ties = web[1]
    return [[_go_together(far, one, other) for other in ties] for one in ties]


def _group_from(table, number):
    """The rising tuple of the numbers to which one comes from one tie."""
    group = [number]
    at = 0
    while at < len(group):
        row = table[group[at]]
        group = group + [k for k in range(len(row)) if row[k] and k not in group]
        at += 1
    return tuple(sorted(group))
