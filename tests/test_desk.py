"""Stage 10, desks: 10.2 to 10.4."""

import unittest
from itertools import combinations

from cubewebs.desk import Desk
from cubewebs.errors import Apart, CubeError, NoCube, NoLine, NoPlace, NoTie, NoWeb, TooGreat
from samples import (
    CUBE, GREAT, Case, Numbers, all_rising, all_webs, brute_addresses, brute_far, brute_groups, brute_joined,
    brute_lies, full_web, junk_but, path_web, plus, ring_web, star_web, two_sided_web, web,
)

ONE = (1, ())
SQUARE = ring_web(4)
LOOSE = web(6, (0, 1), (1, 2), (0, 2), (3, 4))
SAMPLES = [asked for asked in all_webs(4)][::3] + GREAT

PLAIN = ["ties", "joined", "lies", "groups", "bits", "gap", "shown"]
WORDS = PLAIN + ["fresh", "tie", "cut", "hang", "double", "drop", "back", "near", "between", "hull", "middles", "far",
                 "halves"]

# What is no number written as it ought to be, though some other reader would take it for one.
NO_NUMBERS = ["", "00", "01", "-1", "-0", "+1", "1.0", "0x0", "a", "0a", "none", "0-1", "0,", "0;", "\n", "0\n", "\n0",
              "\t0", "1_0", "0" * 20, "1" * 21, "1" * 1900, "~", "None", "True", "\u0660", "\u00b2", "\uff10", "0\r"]

# Rows with as many words as they ought to have.
RIGHT = PLAIN + ["back", "fresh 1", "tie 0 1", "cut 0 1", "hang 0", "double", "double 0", "double 0 0", "drop 0",
                 "near 0", "between 0 1", "hull", "hull 0", "hull 0 0 0", "middles 0 1 2", "far 0 1", "halves 0"]


def desk_of(asked):
    """A desk that keeps this web, and how many deeds stand there."""
    desk = Desk()
    rows = [f"fresh {asked[0]}"] + [f"tie {a} {b}" for a, b in asked[1]]
    for row in rows:
        if desk.say(row) != "ok":
            raise AssertionError(row)
    return desk, len(rows)


def shown(asked):
    return " ; ".join([f"web {asked[0]} {len(asked[1])}"] + [f"tie {a} {b}" for a, b in asked[1]])


def spaced(things):
    return " ".join(map(str, things)) or "none"


def dashed(things):
    return "-".join(map(str, things)) or "none"


def far_between(asked, a, b):
    far = brute_far(asked)
    if far[a][b] is None:
        return set()
    reached = [k for k in range(asked[0]) if far[a][k] is not None]
    return {k for k in reached if far[a][k] + far[k][b] == far[a][b]}


def brute_hull(asked, lot):
    hull = set(lot)
    while True:
        more = hull.union(*[far_between(asked, a, b) for a in hull for b in hull])
        if more == hull:
            return sorted(hull)
        hull = more


def brute_middles(asked, a, b, c):
    return sorted(far_between(asked, a, b) & far_between(asked, b, c) & far_between(asked, a, c))


class Plain:
    """A desk found in another way: the ties as a set, a copy behind each deed; refusals are told as their names."""

    def __init__(self):
        self.kept = [(1, frozenset())]

    def asked(self):
        many, ties = self.kept[-1]
        return (many, tuple(sorted(ties)))

    def say(self, row):
        word, *rest = row.split(" ")
        numbers = [int(part) for part in rest]
        if word == "back":
            if len(self.kept) == 1:
                return "NoLine"
            self.kept.pop()
            return "ok"
        if word in ("fresh", "tie", "cut", "hang", "double", "drop"):
            told = getattr(self, word)(*self.kept[-1], *numbers)
            if isinstance(told, str):
                return told
            self.kept.append(told)
            return "ok"
        return getattr(self, "ask_" + word)(self.asked(), *numbers)

    def fresh(self, many, ties, number):
        return (number, frozenset()) if 1 <= number <= 8 else "NoWeb -1"

    def tie(self, many, ties, a, b):
        if max(a, b) >= many:
            return "NoPlace"
        if a == b or (min(a, b), max(a, b)) in ties:
            return "NoTie"
        return (many, ties | {(min(a, b), max(a, b))})

    def cut(self, many, ties, a, b):
        if max(a, b) >= many:
            return "NoPlace"
        if (min(a, b), max(a, b)) not in ties:
            return "NoTie"
        return (many, ties - {(min(a, b), max(a, b))})

    def hang(self, many, ties, place):
        return self.double(many, ties, place)

    def double(self, many, ties, *places):
        lot = sorted(set(places))
        if not lot or max(lot) >= many:
            return "NoPlace"
        if many + len(lot) > 8:
            return f"TooGreat {many + len(lot)} 8"
        behind = {(place, many + at) for at, place in enumerate(lot)}
        again = {(many + lot.index(a), many + lot.index(b)) for a, b in ties if a in lot and b in lot}
        return (many + len(lot), ties | behind | again)

    def drop(self, many, ties, place):
        if place >= many or many == 1:
            return "NoPlace"
        kept = [k for k in range(many) if k != place]
        return (many - 1, frozenset((kept.index(a), kept.index(b)) for a, b in ties if place not in (a, b)))

    def ask_ties(self, asked):
        return spaced(dashed(tie) for tie in asked[1])

    def ask_near(self, asked, place):
        if place >= asked[0]:
            return "NoPlace"
        return spaced(k for k in range(asked[0]) if (min(k, place), max(k, place)) in asked[1])

    def ask_between(self, asked, a, b):
        return "NoPlace" if max(a, b) >= asked[0] else spaced(sorted(far_between(asked, a, b)))

    def ask_far(self, asked, a, b):
        if max(a, b) >= asked[0]:
            return "NoPlace"
        steps = brute_far(asked)[a][b]
        return "none" if steps is None else str(steps)

    def ask_hull(self, asked, *places):
        if not brute_joined(asked):
            return "Apart"
        return "NoPlace" if max(places, default=0) >= asked[0] else spaced(brute_hull(asked, places))

    def ask_middles(self, asked, *places):
        if not brute_joined(asked):
            return "Apart"
        return "NoPlace" if max(places) >= asked[0] else spaced(brute_middles(asked, *places))

    def ask_joined(self, asked):
        return "yes" if brute_joined(asked) else "no"

    def ask_lies(self, asked):
        return "yes" if brute_lies(asked) else "no"

    def ask_groups(self, asked):
        return spaced(map(dashed, brute_groups(asked))) if brute_joined(asked) else "Apart"

    def ask_halves(self, asked, number):
        if not brute_joined(asked):
            return "Apart"
        if number >= len(asked[1]):
            return "NoTie"
        one, other = [brute_far(asked)[end] for end in asked[1][number]]
        sides = [(one[k] > other[k]) - (one[k] < other[k]) for k in range(asked[0])]
        lots = [[k for k in range(asked[0]) if sides[k] == side] for side in (-1, 1, 0)]
        return " ".join(map(dashed, lots))

    def ask_bits(self, asked):
        if not brute_lies(asked):
            return "NoCube"
        return spaced("".join(map(str, row)) or "none" for row in brute_addresses(asked))

    def ask_gap(self, asked):
        if not brute_joined(asked):
            return "Apart"
        gaps = [three for three in combinations(range(asked[0]), 3) if len(brute_middles(asked, *three)) != 1]
        return spaced(gaps[0]) if gaps else "none"

    def ask_shown(self, asked):
        return shown(asked)


def named(refusal):
    """The refusal as Plain tells it."""
    fields = [str(getattr(refusal, name)) for name in ("number", "many", "most") if hasattr(refusal, name)]
    return " ".join([refusal.__class__.__name__] + fields)


def stray_row(numbers, many):
    """A row that is one, mostly of places that there are."""
    def place():
        return numbers.below(many + (numbers.below(6) == 0))

    word = ["tie", "tie", "tie", "hang", "double", "cut", "drop", "back", "fresh", "near", "between", "far", "hull",
            "middles", "halves", *PLAIN][numbers.below(22)]
    due = {"fresh": 1, "tie": 2, "cut": 2, "hang": 1, "drop": 1, "near": 1, "between": 2, "far": 2, "middles": 3,
           "halves": 1, "double": numbers.below(4), "hull": numbers.below(5)}.get(word, 0)
    parts = [place() for _ in range(due)]
    if word == "fresh":
        parts = [numbers.below(40) and 1 + numbers.below(10)]
    if word == "halves":
        parts = [numbers.below(12)]
    return " ".join([word, *map(str, parts)])


class DeskCase(Case):
    def says(self, desk, due, row):
        self.told(due, desk.say, row)

    def keeps(self, desk, asked):
        self.says(desk, shown(asked), "shown")

    def too_great(self, desk, many, row):
        refusal = self.refused(TooGreat, desk.say, row)
        self.assertEqual((refusal.many, refusal.most), (many, 8))

    def outcome(self, desk, row):
        """What the desk tells, or how it refuses."""
        try:
            return self.ask(desk.say, row)
        except CubeError as refusal:
            return named(refusal)

    def undone(self, desk, kept):
        """Back as often as deeds stand, each time to what was shown then, and once more."""
        for due in reversed(kept):
            self.says(desk, "ok", "back")
            self.says(desk, due, "shown")
        self.none_stands(desk)

    def none_stands(self, desk):
        self.refused(NoLine, desk.say, "back")
        self.keeps(desk, ONE)


class DeedsTest(DeskCase):
    """10.2"""

    def test_at_first_a_web_of_one_place(self):
        desk = Desk()
        self.keeps(desk, ONE)
        self.says(desk, "web 1 0", "shown")
        self.refused(NoLine, desk.say, "back")

    def test_each_deed_by_hand(self):
        desk = Desk()
        for row, kept in [
            ("fresh 4", (4, ())), ("tie 1 0", path_web(2)[1]), ("tie 1 2", ((0, 1), (1, 2))),
            ("tie 3 2", ((0, 1), (1, 2), (2, 3))), ("tie 0 3", SQUARE[1]), ("cut 2 1", ((0, 1), (0, 3), (2, 3))),
            ("cut 0 3", ((0, 1), (2, 3))), ("back", ((0, 1), (0, 3), (2, 3))), ("back", SQUARE[1]),
        ]:
            self.says(desk, "ok", row)
            self.keeps(desk, kept if kept == (4, ()) else (4, kept))
        self.says(desk, "ok", "hang 2")
        self.keeps(desk, plus((5, SQUARE[1]), (2, 4)))
        self.says(desk, "ok", "drop 0")
        self.keeps(desk, web(4, (0, 1), (1, 2), (1, 3)))
        self.says(desk, "ok", "double 2 1 2")
        self.keeps(desk, web(6, (0, 1), (1, 2), (1, 3), (1, 4), (2, 5), (4, 5)))
        self.says(desk, "ok", "fresh 2")
        self.keeps(desk, (2, ()))
        self.says(desk, "ok", "back")
        self.keeps(desk, web(6, (0, 1), (1, 2), (1, 3), (1, 4), (2, 5), (4, 5)))

    def test_fresh(self):
        for before in [ONE, SQUARE, CUBE]:
            for many in range(1, 9):
                desk, _ = desk_of(before)
                self.says(desk, "ok", f"fresh {many}")
                self.keeps(desk, (many, ()))
                self.says(desk, "ok", "back")
                self.keeps(desk, before)
            for many in [0, 9, 10, 99, 10 ** 20 - 1]:
                desk, _ = desk_of(before)
                self.assertEqual(self.refused(NoWeb, desk.say, f"fresh {many}").number, -1)
                self.keeps(desk, before)

    def test_tie_and_cut(self):
        for asked in [ONE, path_web(2), (2, ()), SQUARE, LOOSE, full_web(8), CUBE]:
            for a in range(asked[0]):
                for b in range(asked[0]):
                    desk, _ = desk_of(asked)
                    tie = (min(a, b), max(a, b))
                    if tie in asked[1]:
                        self.refused(NoTie, desk.say, f"tie {a} {b}")
                        self.says(desk, "ok", f"cut {a} {b}")
                        self.keeps(desk, (asked[0], tuple(sorted(set(asked[1]) - {tie}))))
                    elif a == b:
                        self.refused(NoTie, desk.say, f"tie {a} {b}")
                        self.refused(NoTie, desk.say, f"cut {a} {b}")
                        self.keeps(desk, asked)
                    else:
                        self.refused(NoTie, desk.say, f"cut {a} {b}")
                        self.says(desk, "ok", f"tie {a} {b}")
                        self.keeps(desk, plus(asked, tie))

    def test_tie_and_cut_refuse_no_place_ahead_of_no_tie(self):
        for asked in [ONE, SQUARE, full_web(8)]:
            desk, _ = desk_of(asked)
            for word in ["tie", "cut"]:
                for a in [asked[0], asked[0] + 1, 99, 10 ** 20 - 1]:
                    self.refused(NoPlace, desk.say, f"{word} {a} 0")
                    self.refused(NoPlace, desk.say, f"{word} 0 {a}")
                    self.refused(NoPlace, desk.say, f"{word} {a} {a}")
            self.keeps(desk, asked)

    def test_hang(self):
        for asked in SAMPLES[::4] + [ONE]:
            desk, _ = desk_of(asked)
            for place in range(asked[0]):
                if asked[0] < 8:
                    self.says(desk, "ok", f"hang {place}")
                    self.keeps(desk, plus((asked[0] + 1, asked[1]), (place, asked[0])))
                    self.says(desk, "ok", "back")
                else:
                    self.too_great(desk, 9, f"hang {place}")
            for place in [asked[0], 8, 99, 10 ** 20 - 1]:
                self.refused(NoPlace, desk.say, f"hang {place}")
            self.keeps(desk, asked)

    def test_double(self):
        for asked in SAMPLES[::9] + [ONE, path_web(4), SQUARE]:
            desk, _ = desk_of(asked)
            numbers = Numbers(asked[0])
            for lot in all_rising(asked[0])[1:]:
                told = numbers.mixed(lot + lot[:2])
                row = " ".join(["double", *map(str, told)])
                if asked[0] + len(lot) < 9:
                    self.says(desk, "ok", row)
                    many, ties = Plain().double(asked[0], frozenset(asked[1]), *lot)
                    self.keeps(desk, web(many, *ties))
                    self.says(desk, "ok", "back")
                else:
                    self.too_great(desk, asked[0] + len(lot), row)
            for row in ["double", f"double {asked[0]}", f"double 0 {asked[0]}", f"double {asked[0]} 0 0", "double 99",
                        "double 0 99999999999999999999"]:
                self.refused(NoPlace, desk.say, row)
            self.keeps(desk, asked)

    def test_double_whole(self):
        desk = Desk()
        for many in [1, 2, 4]:
            self.says(desk, "ok", " ".join(["double", *map(str, reversed(range(many)))]))
        self.keeps(desk, CUBE)
        self.too_great(desk, 16, "double 0 1 2 3 4 5 6 7")
        self.too_great(desk, 9, "double 7 7 7 7 7 7 7 7 7 7 7 7 7 7")
        self.refused(NoPlace, desk.say, "double 0 1 2 3 4 5 6 7 8")
        self.refused(NoPlace, desk.say, "double")
        for many in [4, 2, 1]:
            self.says(desk, "ok", "back")
        self.none_stands(desk)

    def test_drop(self):
        for asked in SAMPLES[::4]:
            desk, _ = desk_of(asked)
            for place in range(asked[0]):
                if asked[0] > 1:
                    self.says(desk, "ok", f"drop {place}")
                    many, ties = Plain().drop(asked[0], frozenset(asked[1]), place)
                    self.keeps(desk, web(many, *ties))
                    self.says(desk, "ok", "back")
            for place in [asked[0], 8, 99, 10 ** 20 - 1]:
                self.refused(NoPlace, desk.say, f"drop {place}")
            self.keeps(desk, asked)
        desk = Desk()
        self.refused(NoPlace, desk.say, "drop 0")
        self.refused(NoPlace, desk.say, "drop 1")
        self.none_stands(desk)

    def test_back_undoes_deeds_one_by_one_and_no_more(self):
        desk = Desk()
        rows = ["hang 0", "hang 1", "tie 0 2", "double 0 1 2", "cut 3 4", "drop 2", "fresh 3", "fresh 3", "tie 0 2"]
        kept = []
        for row in rows:
            kept.append(self.ask(desk.say, "shown"))
            self.says(desk, "ok", row)
        self.undone(desk, kept)
        self.none_stands(desk)
        # What was undone stays undone, and is told anew as if it had not been told.
        self.says(desk, "ok", "hang 0")
        self.says(desk, "ok", "back")
        self.none_stands(desk)

    def test_a_deed_that_leaves_the_web_as_it_was_stands(self):
        desk = Desk()
        for _ in range(3):
            self.says(desk, "ok", "fresh 1")
        for _ in range(3):
            self.says(desk, "ok", "back")
        self.none_stands(desk)

    def test_what_is_refused_is_not_undone_by_back(self):
        desk = Desk()
        self.says(desk, "ok", "fresh 8")
        for row in ["fresh 9", "tie 0 8", "tie 0 0", "cut 0 1", "hang 0", "double 0", "double", "drop 8", "near 8",
                    "hull 0", "groups", "halves 0", "bits", "gap", "middles 0 0 0", "nothing", "ties 1", "",
                    "back back"]:
            with self.assertRaises(CubeError):
                desk.say(row)
            self.keeps(desk, (8, ()))
        for row in PLAIN[:3] + ["near 0", "far 0 1", "between 0 1", "shown"]:
            self.ask(desk.say, row)
        self.says(desk, "ok", "back")
        self.none_stands(desk)


class QuestionsTest(DeskCase):
    """10.3"""

    def test_by_hand_of_one_place(self):
        desk = Desk()
        for row, due in [("ties", "none"), ("near 0", "none"), ("between 0 0", "0"), ("hull", "none"), ("hull 0 0",
                                                                                                        "0"),
                         ("middles 0 0 0", "0"), ("far 0 0", "0"), ("joined", "yes"), ("lies", "yes"),
                         ("groups", "none"), ("bits", "none"), ("gap", "none"), ("shown", "web 1 0")]:
            self.says(desk, due, row)
        self.refused(NoTie, desk.say, "halves 0")
        self.refused(NoPlace, desk.say, "near 1")

    def test_by_hand_of_two_places(self):
        desk, _ = desk_of(path_web(2))
        for row, due in [("ties", "0-1"), ("near 0", "1"), ("between 1 0", "0 1"), ("far 0 1", "1"), ("groups", "0"),
                         ("halves 0", "0 1 none"), ("bits", "0 1"), ("gap", "none"), ("shown", "web 2 1 ; tie 0 1")]:
            self.says(desk, due, row)

    def test_by_hand_of_the_square(self):
        desk, _ = desk_of(SQUARE)
        for row, due in [("ties", "0-1 0-3 1-2 2-3"), ("near 0", "1 3"), ("between 0 2", "0 1 2 3"), ("hull 2 0 2",
                                                                                                      "0 1 2 3"),
                         ("hull 1 0", "0 1"), ("hull", "none"), ("middles 0 1 2", "1"), ("far 0 2", "2"),
                         ("joined", "yes"), ("lies", "yes"), ("groups", "0-3 1-2"), ("halves 0", "0-3 1-2 none"),
                         ("bits", "00 10 11 01"), ("gap", "none"),
                         ("shown", "web 4 4 ; tie 0 1 ; tie 0 3 ; tie 1 2 ; tie 2 3")]:
            self.says(desk, due, row)

    def test_by_hand_of_webs_that_lie_in_no_cube(self):
        desk, _ = desk_of(ring_web(5))
        for row, due in [("lies", "no"), ("joined", "yes"), ("halves 0", "0-4 1-2 3"), ("groups", "0-1-2-3-4"),
                         ("gap", "0 1 3"), ("middles 0 1 3", "none")]:
            self.says(desk, due, row)
        self.refused(NoCube, desk.say, "bits")
        desk, _ = desk_of(full_web(3))
        for row, due in [("halves 2", "1 2 0"), ("gap", "0 1 2"), ("groups", "0-1-2")]:
            self.says(desk, due, row)
        desk, _ = desk_of(two_sided_web(2, 3))
        for row, due in [("middles 4 3 2", "0 1"), ("gap", "2 3 4"), ("lies", "no")]:
            self.says(desk, due, row)

    def test_by_hand_of_a_web_that_is_not_joined(self):
        desk, _ = desk_of(LOOSE)
        for row, due in [("ties", "0-1 0-2 1-2 3-4"), ("near 5", "none"), ("between 0 3", "none"), ("far 0 5", "none"),
                         ("between 5 5", "5"), ("far 5 5", "0"), ("joined", "no"), ("lies", "no")]:
            self.says(desk, due, row)
        for row in ["groups", "halves 0", "halves 99", "gap", "hull", "hull 0", "hull 9", "middles 0 0 0",
                    "middles 9 0 0"]:
            self.refused(Apart, desk.say, row)
        self.refused(NoCube, desk.say, "bits")
        for row in ["near 6", "between 0 6", "between 6 0", "far 6 6", "far 0 99999999999999999999"]:
            self.refused(NoPlace, desk.say, row)
        self.keeps(desk, LOOSE)

    def test_refusals_of_places_and_ties_that_are_none(self):
        for asked in [ONE, SQUARE, CUBE, star_web(8)]:
            desk, _ = desk_of(asked)
            for k in [asked[0], asked[0] + 1, 8, 99, 10 ** 20 - 1]:
                for row in [f"near {k}", f"between {k} 0", f"between 0 {k}", f"far {k} 0", f"far 0 {k}", f"hull {k}",
                            f"hull 0 {k}", f"hull {k} 0 0", f"middles {k} 0 0", f"middles 0 {k} 0", f"middles 0 0 {k}"]:
                    self.refused(NoPlace, desk.say, row)
            for k in [len(asked[1]), len(asked[1]) + 1, 99, 10 ** 20 - 1]:
                self.refused(NoTie, desk.say, f"halves {k}")
            self.keeps(desk, asked)

    def test_each_question_over_many_webs(self):
        for asked in SAMPLES:
            desk, many = desk_of(asked)
            plain = Plain()
            plain.kept.append((asked[0], frozenset(asked[1])))
            last = asked[0] - 1
            rows = PLAIN + [f"near {last}", f"between 0 {last}", f"between {last} {last // 2}", f"far {last} 0", "hull",
                            f"hull {last} 0", f"hull 0 {last // 2} {last} 0", f"middles 0 {last // 2} {last}",
                            f"middles {last} {last} 0", "halves 0", "halves 3", "halves 10", f"hull {last}"]
            for row in rows + rows[::-1]:
                self.assertEqual(self.outcome(desk, row), plain.say(row), (asked, row))
            self.keeps(desk, asked)
            for _ in range(many):
                self.says(desk, "ok", "back")
            self.none_stands(desk)


class NoLineTest(DeskCase):
    """10.4"""

    def desks(self):
        """Desks of which some refuse nearly all else, so that it shows what goes first."""
        return [desk_of(asked)[0] for asked in [ONE, SQUARE, LOOSE, full_web(8)]]

    def test_what_is_no_text(self):
        for desk in self.desks():
            before = self.ask(desk.say, "shown")
            for thing in junk_but("lies") + [["ties"], ("ties",), {"ties": 1}, ["near", 0], b"ties", b"shown"]:
                self.refused(NoLine, desk.say, thing)
            self.says(desk, before, "shown")

    def test_other_words(self):
        wrong = ["", " ", "~", "0", "1 0", "nothing", "Ties", "TIES", "tie", "ti", "tied 0 1", "web 1 0", "say",
                 "none", "ok", "backs", "undo", "show", "help", "addresses", "group", "half 0", "halve 0", "lie", "join",
                 "middle 0 0 0", "hulls 0", "bit", "gaps", "desk", "fars 0 0", "nears 0", "doubled 0", "hung 0", "hangs 0", "dropped 0",
                 "freshen 1", "cuts 0 1", "tie-0-1", "tie,0,1", "near0", "fresh1", "0 near", "_near 0", "say ties",
                 "web_shown", "least_way 0 0", "long", "DEEDS", "pop", "append 0"]
        for desk in self.desks():
            for row in wrong:
                self.refused(NoLine, desk.say, row)

    def test_words_that_are_known_behind_another_number_of_words(self):
        due = {"fresh": 1, "tie": 2, "cut": 2, "hang": 1, "drop": 1, "back": 0, "near": 1, "between": 2, "middles": 3,
               "far": 2, "halves": 1, **{word: 0 for word in PLAIN}}
        for desk in self.desks():
            before = self.ask(desk.say, "shown")
            for word, many in due.items():
                for more in range(6):
                    if more != many:
                        self.refused(NoLine, desk.say, " ".join([word] + ["0"] * more))
                        self.refused(NoLine, desk.say, " ".join([word] + ["99"] * more))
                        self.refused(NoLine, desk.say, " ".join([word] + ["x"] * more))
            self.says(desk, before, "shown")
        self.assertEqual(sorted([*due, "double", "hull"]), sorted(WORDS))

    def test_blanks_and_line_feeds(self):
        for desk in self.desks():
            before = self.ask(desk.say, "shown")
            for row in RIGHT:
                for wrong in [" " + row, row + " ", "  " + row, row + "  ", row + "\n", "\n" + row, row + "\nties",
                              row + " \n", row + "\n\n", row.replace(" ", "  "), row.replace(" ", "\n"), row + ";",
                              row.replace(" ", "\t"), row.replace(" ", " \n"), row.upper(), row + "\r", row + "\t"]:
                    if wrong != row:
                        self.refused(NoLine, desk.say, wrong)
            self.says(desk, before, "shown")

    def test_numbers_that_are_written_otherwise(self):
        for desk in self.desks():
            before = self.ask(desk.say, "shown")
            for word in NO_NUMBERS:
                for row in ["fresh {}", "tie {} 1", "tie 0 {}", "cut {} 1", "cut 0 {}", "hang {}", "double {}",
                            "double 0 {}",
                            "double {} 0", "drop {}", "near {}", "between {} 0", "between 0 {}", "hull {}", "hull 0 {}",
                            "hull {} 0 0", "middles {} 0 0", "middles 0 {} 0", "middles 0 0 {}", "far {} 0", "far 0 {}",
                            "halves {}"]:
                    self.refused(NoLine, desk.say, row.format(word))
                for row in PLAIN + ["back"]:
                    self.refused(NoLine, desk.say, f"{row} {word}")
            self.says(desk, before, "shown")

    def test_figures_at_most_twenty(self):
        desk, _ = desk_of(SQUARE)
        for row in ["near", "hang", "drop", "hull", "double"]:
            self.refused(NoPlace, desk.say, f"{row} " + "9" * 20)
            self.refused(NoLine, desk.say, f"{row} " + "9" * 21)
            self.refused(NoLine, desk.say, f"{row} 0" + "1" * 5)
        self.refused(NoTie, desk.say, "halves " + "9" * 20)
        self.refused(NoWeb, desk.say, "fresh " + "9" * 20)
        self.refused(NoLine, desk.say, "fresh " + "9" * 21)

    def test_ahead_of_all_else(self):
        desk, _ = desk_of(LOOSE)
        for row in ["groups 0", "hull x", "hull 9 x", "middles 9 9", "middles 9 9 x", "bits 1", "gap 0", "halves 99 0",
                    "halves 099", "near 9 9", "tie 9 9 9", "tie 9 x", "cut 0 09", "fresh 09", "fresh 9 9", "drop 9 9",
                    "double 9 x", "double 0 00", "hang 9 "]:
            self.refused(NoLine, desk.say, row)
        self.keeps(desk, LOOSE)

    def test_back_where_no_deed_stands(self):
        desk = Desk()
        for _ in range(3):
            self.none_stands(desk)
        self.says(desk, "ok", "fresh 5")
        self.refused(NoLine, desk.say, "back 1")
        self.refused(NoLine, desk.say, "back ")
        self.says(desk, "ok", "back")
        self.none_stands(desk)

    def test_long_rows(self):
        desk, _ = desk_of(SQUARE)
        self.says(desk, "0 1 2 3", "hull" + " 0 2" * 490)
        self.says(desk, "3", "hull" + " 3" * 990)
        self.refused(NoPlace, desk.say, "hull" + " 3" * 900 + " 4")
        self.refused(NoLine, desk.say, "hull" + " 3" * 900 + " ")
        self.refused(NoLine, desk.say, "hull" + " 3" * 900 + " x")
        self.refused(NoLine, desk.say, "~" * 2000)
        self.refused(NoLine, desk.say, " " * 2000)
        self.refused(NoLine, desk.say, "\n" * 2000)
        self.says(desk, "ok", "double" + " 0 3 3" * 300)
        self.says(desk, "0-1 0-3 0-4 1-2 2-3 3-5 4-5", "ties")


class RunsTest(DeskCase):
    """10.2 to 10.4, in long runs"""

    def test_long_runs_are_as_the_plain_desk_says(self):
        for start in range(12):
            numbers = Numbers(100 + start)
            desk, plain = Desk(), Plain()
            for _ in range(400):
                row = stray_row(numbers, plain.asked()[0])
                due = plain.say(row)
                self.assertEqual(self.outcome(desk, row), due, (plain.asked(), row))
                self.keeps(desk, plain.asked())
            while len(plain.kept) > 1:
                self.assertEqual(plain.say("back"), "ok")
                self.says(desk, "ok", "back")
                self.keeps(desk, plain.asked())
            self.none_stands(desk)

    def test_many_deeds_and_back_as_often(self):
        desk = Desk()
        kept = []
        for row in ["fresh 3", "tie 0 1", "tie 2 1", "hang 2", "cut 0 1", "double 2 1 2", "drop 0"] * 300:
            kept.append(self.ask(desk.say, "shown"))
            self.says(desk, "ok", row)
        self.undone(desk, kept)

    def test_what_a_desk_answers_hangs_on_the_deeds_that_stand_alone(self):
        for start in range(6):
            numbers = Numbers(200 + start)
            desk, plain = Desk(), Plain()
            stands = []
            for _ in range(150):
                row = stray_row(numbers, plain.asked()[0])
                due = plain.say(row)
                self.assertEqual(self.outcome(desk, row), due)
                if due == "ok":
                    stands = stands[:-1] if row == "back" else stands + [row]
            again = Desk()
            for row in stands:
                self.says(again, "ok", row)
            for row in PLAIN + ["near 0", "far 0 0", "hull 0", "middles 0 0 0", "halves 0", "near 7", "between 0 1"]:
                self.assertEqual(self.outcome(desk, row), self.outcome(again, row), row)
            for _ in stands:
                self.says(desk, "ok", "back")
                self.says(again, "ok", "back")
                self.assertEqual(desk.say("shown"), again.say("shown"))
            self.none_stands(desk)
            self.none_stands(again)

    def test_two_desks_told_by_turns_have_nothing_in_common(self):
        numbers = Numbers(300)
        pairs = [(Desk(), Plain()) for _ in range(3)]
        for _ in range(600):
            desk, plain = pairs[numbers.below(3)]
            row = stray_row(numbers, plain.asked()[0])
            self.assertEqual(self.outcome(desk, row), plain.say(row))
            for other, due in pairs:
                self.keeps(other, due.asked())
        for desk, plain in pairs:
            for _ in plain.kept[1:]:
                self.says(desk, "ok", "back")
            self.none_stands(desk)

    def test_the_same_question_has_the_same_answer(self):
        for asked in SAMPLES[::5]:
            desk, _ = desk_of(asked)
            rows = PLAIN + ["near 0", "far 0 0", "between 0 0", "hull 0", "middles 0 0 0", "halves 0"]
            first = [self.outcome(desk, row) for row in rows]
            again = [self.outcome(desk, row) for row in reversed(rows)]
            self.assertEqual(first, again[::-1])


if __name__ == "__main__":
    unittest.main()
