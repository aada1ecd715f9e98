"""Stage 10: desks, each of which keeps a web and answers rows of words."""

from cubewebs.errors import NoLine, NoTie
from cubewebs.halves import halves_of, hull_of
from cubewebs.lying import addresses_of, lies
from cubewebs.made import doubled, hung_at, without_place
from cubewebs.middles import first_gap, middles_of
from cubewebs.texts import web_shown, words_of
from cubewebs.together import groups_of
from cubewebs.webs import between, far_of, is_joined, is_tied, near_of, refuse_no_place, web_of


def _listed(things):
    return " ".join([str(thing) for thing in things]) if things else "none"


def _dashed(numbers):
    return "-".join([str(number) for number in numbers]) if numbers else "none"


def _yes_or_no(truth):
    return "yes" if truth else "no"


def _lot_of(numbers):
    """The rising tuple of numbers told in any order, perhaps one twice."""
    return tuple(sorted(set(numbers)))


def _refuse_no_places(web, numbers):
    for number in numbers:
        refuse_no_place(web, number)


def _fresh(_, numbers):
    return web_of(numbers[0], [])


def _tie(web, numbers):
    _refuse_no_places(web, numbers)
    one, other = numbers
    if one == other or is_tied(web, one, other):
        raise NoTie()
    return web_of(web[0], [*web[1], (one, other)])


def _cut(web, numbers):
    _refuse_no_places(web, numbers)
    one, other = numbers
    if not is_tied(web, one, other):
        raise NoTie()
    return (web[0], tuple([tie for tie in web[1] if one not in tie or other not in tie]))


def _hang(web, numbers):
    return hung_at(web, numbers[0])


def _double(web, numbers):
    return doubled(web, _lot_of(numbers))


def _drop(web, numbers):
    return without_place(web, numbers[0])


def _ties(web, _):
    return _listed([_dashed(tie) for tie in web[1]])


def _near(web, numbers):
    return _listed(near_of(web, numbers[0]))


def _between(web, numbers):
    return _listed(between(web, numbers[0], numbers[1]))


def _hull(web, numbers):
    return _listed(hull_of(web, _lot_of(numbers)))


def _middles(web, numbers):
    return _listed(middles_of(web, numbers[0], numbers[1], numbers[2]))


def _far(web, numbers):
    steps = far_of(web, numbers[0], numbers[1])
    return "none" if steps is None else str(steps)


def _joined(web, _):
    return _yes_or_no(is_joined(web))


def _lies(web, _):
    return _yes_or_no(lies(web))


def _groups(web, _):
    return _listed([_dashed(group) for group in groups_of(web)])


def _halves(web, numbers):
    return _listed([_dashed(half) for half in halves_of(web, numbers[0])])


def _bits(web, _):
    return _listed(["".join([str(bit) for bit in row]) if row else "none" for row in addresses_of(web)])


def _gap(web, _):
    # Where there is no gap None stands for it, and there is nothing to list.
    return _listed(first_gap(web))


def _shown(web, _):
    return web_shown(web).replace("\n", " ; ")


DEEDS = {"fresh": _fresh, "tie": _tie, "cut": _cut, "hang": _hang, "double": _double, "drop": _drop}

QUESTIONS = {
    "ties": _ties, "near": _near, "between": _between, "hull": _hull, "middles": _middles, "far": _far,
    "joined": _joined, "lies": _lies, "groups": _groups, "halves": _halves, "bits": _bits, "gap": _gap,
    "shown": _shown,
}

# How many numbers are due behind a word; behind the words of LONG any many.
DUE = {
    "fresh": 1, "tie": 2, "cut": 2, "hang": 1, "drop": 1, "back": 0,
    "ties": 0, "near": 1, "between": 2, "middles": 3, "far": 2,
    "joined": 0, "lies": 0, "groups": 0, "halves": 1, "bits": 0, "gap": 0, "shown": 0,
}

LONG = ("double", "hull")


class Desk:
    """A desk: it keeps a web, at first of one place."""

    def __init__(self):
        # The web as it was ahead of each deed that stands, and last the web as it is.
        self._webs = [(1, ())]

    def say(self, row):
        """The answer to the row: of deeds `ok`; else NoLine, or what the deed or question is refused with."""
        word, numbers = _line_of(row)
        if word == "back":
            return self._undo()
        web = self._webs[-1]
        if word in DEEDS:
            deed = DEEDS[word]
            self._webs.append(deed(web, numbers))
            return "ok"
        question = QUESTIONS[word]
        return question(web, numbers)

    def _undo(self):
        if len(self._webs) == 1:
            raise NoLine()
        self._webs.pop()
        return "ok"


def _line_of(row):
    """The word and the numbers of a row; NoLine where it is no deed and no question."""
    if not isinstance(row, str):
        raise NoLine()
    word, numbers = words_of(row)
    if numbers is None or not (word in LONG or DUE.get(word) == len(numbers)):
        raise NoLine()
    return (word, numbers)
