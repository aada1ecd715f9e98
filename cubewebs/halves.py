"""Stage 4: the halves that the ties of joined webs make, and closed lots of places."""

from itertools import combinations

from cubewebs.errors import NoPlace
from cubewebs.kinds import all_below, rising_below
from cubewebs.together import refuse_apart, refuse_no_tie
from cubewebs.webs import far_table


def halves_of(web, number):
    """The places nearer to the tie's lesser end, to its greater one, to neither; else Apart, NoTie."""
    refuse_apart(web)
    refuse_no_tie(web, number)
    return _halves(far_table(web), web[1][number])


def closed_good(web, thing):
    """Whether the thing is a closed lot of places; else Apart."""
    refuse_apart(web)
    return rising_below(thing, web[0]) and not _all_left(far_table(web), thing)


def closed_lots(web):
    """The rising list of all closed lots; else Apart."""
    refuse_apart(web)
    far = far_table(web)
    lots = [lot for size in range(web[0] + 1) for lot in combinations(range(web[0]), size)]
    return sorted([lot for lot in lots if not _all_left(far, lot)])


def hull_of(web, lot):
    """The least closed lot that has all places of the lot; else Apart, NoPlace."""
    refuse_apart(web)
    _refuse_no_lot(web, lot)
    far = far_table(web)
    hull = lot
    left = _all_left(far, hull)
    while left:
        _, _, place = left[0]
        hull = tuple(sorted((*hull, place)))
        left = _all_left(far, hull)
    return hull


def left_by(web, lot):
    """The first (a, b, place) of the lot without the place between, None if closed; else Apart, NoPlace."""
    refuse_apart(web)
    _refuse_no_lot(web, lot)
    left = _all_left(far_table(web), lot)
    return left[0] if left else None


def open_good(web, thing):
    """Whether the thing is an open tie; else Apart."""
    refuse_apart(web)
    # Python takes truths for numbers: they are barred before anything is compared.
    return all_below(thing, 5, max(web[0], len(web[1]))) and thing in _open_ties(web)


def first_open(web):
    """The first open tie, None where there is none; else Apart."""
    refuse_apart(web)
    ties = _open_ties(web)
    return ties[0] if ties else None


def _refuse_no_lot(web, lot):
    if not rising_below(lot, web[0]):
        raise NoPlace()


def _halves(far, tie):
    a, b = tie
    places = range(len(far))
    return (
        tuple([place for place in places if far[a][place] < far[b][place]]),
        tuple([place for place in places if far[a][place] > far[b][place]]),
        tuple([place for place in places if far[a][place] == far[b][place]]),
    )


def _all_left(far, lot):
    """All (a, b, place), rising: a and b of the lot, the place between them and not of it."""
    others = [place for place in range(len(far)) if place not in lot]
    pairs = [(a, b) for a in lot for b in lot if a < b]
    return [(a, b, place) for a, b in pairs for place in others if far[a][place] + far[place][b] == far[a][b]]


def _open_ties(web):
    """The rising list of all open ties."""
    far = far_table(web)
    halves = [_halves(far, tie) for tie in web[1]]
    return [
        (number, side, *left)
        for number in range(len(halves))
        for side in range(2)
        for left in _all_left(far, halves[number][side])
    ]
