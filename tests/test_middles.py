"""Stage 6, middle places: 6.1 to 6.5."""

import unittest
from itertools import combinations, product

from cubewebs.errors import Apart, NoCube, NoPlace, TooGreat
from cubewebs.lying import addresses_of, lies
from cubewebs.middles import (
    filled_bits, first_gap, gap_good, has_middles, majority, middles_of, nearest_of,
)
from samples import (
    CUBE, GREAT, JUNK, LADDER, NO_LOTS, Case, Numbers, all_webs, brute_addresses, brute_far, brute_joined,
    brute_least_ways, brute_lies, deep, full_web, junk_but, path_web, ring_web, star_web, stray_lots, two_sided_web,
    web, web_of_codes,
)

FEW = [asked for asked in all_webs(5) if brute_joined(asked)]
EIGHTS = [asked for asked in GREAT if brute_joined(asked)]
JOINED = FEW + EIGHTS
LOOSE = [asked for asked in list(all_webs(4)) + GREAT if not brute_joined(asked)]

ONE = (1, ())
SQUARE = ring_web(4)
SIX = ring_web(6)


def brute_between(asked):
    """By two places, those that stand in some least way."""
    return {(a, b): {place for way in brute_least_ways(asked, a, b) for place in way}
            for a in range(asked[0]) for b in range(asked[0])}


def far_between(asked):
    """The same, by how far places are."""
    far = brute_far(asked)
    every = range(asked[0])
    return {(a, b): {k for k in every if far[a][k] + far[k][b] == far[a][b]} for a in every for b in every}


def brute_middles(within, a, b, c):
    return tuple(sorted(within[a, b] & within[b, c] & within[a, c]))


def brute_gaps(asked):
    within = far_between(asked)
    return [three for three in combinations(range(asked[0]), 3) if len(brute_middles(within, *three)) != 1]


def brute_majority(*three):
    return tuple(int(sum(bits) >= 2) for bits in zip(*three))


def brute_filled(lots):
    """All that comes by majorities, round by round until a round brings nothing."""
    found = set(lots)
    while True:
        more = found | {brute_majority(*three) for three in combinations(sorted(found), 3)}
        if more == found:
            return tuple(sorted(found))
        found = more


class ApartTest(Case):
    """6.1: webs that are not joined are refused ahead of all else."""

    def test_webs_that_are_not_joined(self):
        for asked in LOOSE:
            self.refused(Apart, middles_of, asked, 0, 0, 0)
            self.refused(Apart, has_middles, asked)
            self.refused(Apart, gap_good, asked, (0, 1, 2))
            self.refused(Apart, first_gap, asked)
            self.refused(Apart, nearest_of, asked, [0])

    def test_ahead_of_no_place_and_whatever_is_handed_in(self):
        for asked in [(2, ()), web(4, (0, 1), (0, 2), (1, 2)), web(8, *ring_web(7)[1])]:
            for thing in JUNK:
                self.refused(Apart, middles_of, asked, thing, 0, 0)
                self.refused(Apart, middles_of, asked, 0, thing, 0)
                self.refused(Apart, middles_of, asked, 0, 0, thing)
                self.refused(Apart, gap_good, asked, thing)
                self.refused(Apart, nearest_of, asked, thing)
                self.refused(Apart, nearest_of, asked, [thing])

    def test_a_web_of_one_place_is_joined(self):
        self.told((0,), middles_of, ONE, 0, 0, 0)
        self.told(True, has_middles, ONE)
        self.told(False, gap_good, ONE, (0, 0, 0))
        self.told(None, first_gap, ONE)
        self.told((0,), nearest_of, ONE, [0])


class MiddlesTest(Case):
    """6.1"""

    def test_by_hand(self):
        self.told((1,), middles_of, path_web(3), 0, 1, 2)
        self.told((2,), middles_of, path_web(5), 4, 0, 2)
        self.told((0,), middles_of, star_web(4), 1, 2, 3)
        self.told((), middles_of, full_web(3), 0, 1, 2)
        self.told((), middles_of, SIX, 0, 2, 4)
        self.told((1,), middles_of, SIX, 0, 1, 2)
        self.told((1,), middles_of, SQUARE, 0, 1, 2)
        self.told((0, 1), middles_of, two_sided_web(2, 3), 2, 3, 4)
        self.told((0, 1, 2, 3), middles_of, two_sided_web(4, 4), 4, 5, 6)
        self.told((7,), middles_of, CUBE, 3, 5, 6)
        self.told((), middles_of, ring_web(7), 0, 2, 4)

    def test_of_places_alike(self):
        for asked in JOINED:
            for a, b in product(range(asked[0]), repeat=2):
                self.told((a,), middles_of, asked, a, a, b)
                self.told((a,), middles_of, asked, a, b, a)
                self.told((a,), middles_of, asked, b, a, a)

    def test_all_of_few_places(self):
        for asked in FEW:
            within = brute_between(asked) if asked[0] < 5 else far_between(asked)
            for three in product(range(asked[0]), repeat=3):
                self.told(brute_middles(within, *three), middles_of, asked, *three)

    def test_some_of_up_to_eight(self):
        for asked in EIGHTS:
            within = far_between(asked)
            for three in combinations(range(asked[0]), 3):
                self.told(brute_middles(within, *three), middles_of, asked, *three[1:], three[0])

    def test_no_place(self):
        for asked in [ONE, path_web(2), SQUARE, CUBE]:
            for thing in JUNK + [asked[0], (0, 0, 0)]:
                self.refused(NoPlace, middles_of, asked, thing, 0, 0)
                self.refused(NoPlace, middles_of, asked, 0, thing, 0)
                self.refused(NoPlace, middles_of, asked, 0, 0, thing)
                self.refused(NoPlace, middles_of, asked, thing, thing, thing)


class GapTest(Case):
    """6.2"""

    def test_by_hand(self):
        self.told(True, has_middles, SQUARE)
        self.told(None, first_gap, SQUARE)
        self.told(True, has_middles, CUBE)
        self.told(True, has_middles, path_web(8))
        self.told(True, has_middles, star_web(8))
        self.told(False, has_middles, SIX)
        self.told((0, 2, 4), first_gap, SIX)
        self.told(True, gap_good, SIX, (1, 3, 5))
        self.told(False, gap_good, SIX, (0, 1, 2))
        self.told((0, 1, 2), first_gap, full_web(8))
        # One kind of gap has no middle, the other one has too many.
        self.told((2, 3, 4), first_gap, two_sided_web(2, 3))
        self.told((3, 5, 6), first_gap, web_of_codes([0, 1, 2, 3, 4, 5, 6]))
        self.told(True, has_middles, path_web(2))

    def test_two_places_have_no_gap(self):
        self.told(None, first_gap, path_web(2))
        self.told(False, gap_good, path_web(2), (0, 0, 1))
        self.told(False, gap_good, path_web(2), (0, 1, 2))

    def test_over_many_webs(self):
        for asked in JOINED:
            gaps = brute_gaps(asked)
            self.told(not gaps, has_middles, asked)
            self.told(gaps[0] if gaps else None, first_gap, asked)
            for three in combinations(range(asked[0]), 3):
                self.told(three in gaps, gap_good, asked, three)

    def test_of_places_that_do_not_rise_there_is_none(self):
        for asked in [full_web(3), full_web(4), SIX, two_sided_web(2, 3)]:
            gaps = brute_gaps(asked)
            for three in product(range(-1, asked[0] + 1), repeat=3):
                self.told(three in gaps, gap_good, asked, three)

    def test_what_is_no_gap(self):
        wrong = [[0, 1, 2], (0, 1), (0, 1, 2, 3), (2, 1, 0), (0, 2, 1), (0, 0, 1), (0, 1, 1), (1, 1, 1), "012",
                 {0: 0, 1: 1, 2: 2}, (0, True, 2), (False, 1, 2), (0, 1, "2"), (0, 1, None), ((0, 1, 2),), (0, 1, (2,)),
                 (-1, 0, 1), (0, 1, 10 ** 39), (0, 1, 8), (0.0, 1, 2), ([0], [1], [2]), ({}, [], ())]
        for thing in JUNK + wrong:
            self.told(False, gap_good, full_web(8), thing)
            self.told(False, gap_good, full_web(3), thing)
        for times in range(1, 8):
            self.told(False, gap_good, full_web(3), deep((0, 1, 2), times))
        for many in range(3, 9):
            self.told(True, gap_good, full_web(many), (0, 1, many - 1))
            self.told(False, gap_good, full_web(many), (0, 1, many))


class MajorityTest(Case):
    """6.3: majorities of three"""

    def test_by_hand(self):
        self.told((0, 1, 1, 0), majority, (0, 1, 1, 0), (0, 0, 1, 1), (1, 1, 1, 0))
        self.told((), majority, (), (), ())
        self.told((1,), majority, (1,), (1,), (0,))
        self.told((0,), majority, (0,), (1,), (0,))
        self.told((1,) * 12, majority, (1,) * 12, (0,) * 12, (1,) * 12)

    def test_all_of_few_bits(self):
        for width in range(4):
            for three in product(list(product((0, 1), repeat=width)), repeat=3):
                self.told(brute_majority(*three), majority, *three)

    def test_some_of_more_bits(self):
        numbers = Numbers(30)
        for width in range(4, 13):
            for _ in range(20):
                three = [tuple(numbers.below(2) for _ in range(width)) for _ in range(3)]
                self.told(brute_majority(*three), majority, *three)

    def test_no_cube(self):
        wrong = junk_but((), (0,), (1,)) + [(2,), (-1,), ("1",), [1], "1", (True,), (False,), (None,), ((1,),), (0.0,),
                                            {1: 1}, (0, 1), (1, 1, 1)]
        for right in [(1,), (0,)]:
            for thing in wrong + [()]:
                self.refused(NoCube, majority, thing, right, right)
                self.refused(NoCube, majority, right, thing, right)
                self.refused(NoCube, majority, right, right, thing)
        for thing in wrong + [(0,), (1,)]:
            self.refused(NoCube, majority, thing, (), ())
            self.refused(NoCube, majority, (), thing, ())
            self.refused(NoCube, majority, (), (), thing)
        for thing in junk_but((), (0,), (1,)):
            self.refused(NoCube, majority, thing, thing, thing)

    def test_twelve_bits_at_most_and_all_of_as_many(self):
        self.refused(NoCube, majority, (0,) * 13, (0,) * 13, (0,) * 13)
        for one, other, third in product([0, 1, 11, 12, 13], repeat=3):
            handed = ((0,) * one, (1,) * other, (0,) * third)
            if one == other == third < 13:
                self.told((0,) * one, majority, *handed)
            else:
                self.refused(NoCube, majority, *handed)


class FilledTest(Case):
    """6.3: all that comes by majorities"""

    def test_by_hand(self):
        self.told(((),), filled_bits, ((),))
        self.told(((0,),), filled_bits, ((0,),))
        self.told(((0,), (1,)), filled_bits, ((1,), (0,)))
        self.told(((0, 0), (1, 1)), filled_bits, ((1, 1), (0, 0)))
        self.told(((0, 0, 0), (0, 0, 1), (0, 1, 0), (1, 0, 0)), filled_bits, ((1, 0, 0), (0, 1, 0), (0, 0, 1)))
        # Round the cube, all but two of its corners: those two come by majorities.
        self.told(tuple(product((0, 1), repeat=3)), filled_bits,
                  ((0, 0, 1), (0, 1, 1), (0, 1, 0), (1, 1, 0), (1, 0, 0), (1, 0, 1)))
        self.told(((0,) * 5, (1,) * 5), filled_bits, ((0,) * 5, (1,) * 5))
        self.told(tuple(sorted([(0,) * 5] + [tuple(int(k == at) for k in range(5)) for at in range(5)])), filled_bits,
                  tuple(tuple(int(k == at) for k in range(5)) for at in range(5)))

    def test_majorities_of_majorities(self):
        # No three of these have the majority (0, 1, 1, 0), but three of their majorities have.
        lots = ((0, 0, 0, 0), (0, 0, 1, 1), (0, 1, 0, 1), (1, 1, 1, 0))
        once = {brute_majority(*three) for three in combinations(lots, 3)} | set(lots)
        due = ((0, 0, 0, 0), (0, 0, 0, 1), (0, 0, 1, 0), (0, 0, 1, 1), (0, 1, 0, 0), (0, 1, 0, 1), (0, 1, 1, 0),
               (0, 1, 1, 1), (1, 1, 1, 0))
        self.assertEqual(set(due) - once, {(0, 1, 1, 0)})
        self.told(due, filled_bits, lots)

    def test_all_lots_of_few_bits(self):
        for width in range(4):
            rows = list(product((0, 1), repeat=width))
            for many in range(1, len(rows) + 1):
                for lots in combinations(rows, many):
                    due = brute_filled(lots)
                    self.told(due, filled_bits, lots)
                    self.told(due, filled_bits, lots[::-1])

    def test_some_of_four_and_five_bits(self):
        found = 0
        for lots in [lots for lots in stray_lots(400) if len(lots[0]) in (4, 5)]:
            due = brute_filled(lots)
            found += len(due) > 8
            self.told(due, filled_bits, lots)
            if len(due) < 9:
                self.told(due, filled_bits, due)
        self.assertGreater(found, 10)

    def test_no_cube(self):
        for thing in NO_LOTS:
            self.refused(NoCube, filled_bits, thing)
        for times in range(1, 8):
            self.refused(NoCube, filled_bits, deep(((0, 1), (1, 1)), times))

    def test_five_bits_and_more(self):
        for width in range(6):
            self.told(((1,) * width,), filled_bits, ((1,) * width,))
        for width in range(6, 13):
            for lots in [((0,) * width,), ((1,) * width, (0,) * width)]:
                refusal = self.refused(TooGreat, filled_bits, lots)
                self.assertEqual((refusal.many, refusal.most), (width, 5))

    def test_no_cube_goes_ahead_of_too_great(self):
        self.refused(NoCube, filled_bits, ((0,) * 13,))
        self.refused(NoCube, filled_bits, ((0,) * 6, (0,) * 6))
        self.refused(NoCube, filled_bits, ((0,) * 6, (0,) * 7))
        self.refused(NoCube, filled_bits, ((0,) * 5 + (2,),))
        self.refused(NoCube, filled_bits, [(0,) * 6])
        self.refused(NoCube, filled_bits, tuple(product((0, 1), repeat=6))[:9])

    def test_in_good_time_of_eight_tuples_of_five_bits(self):
        rows = list(product((0, 1), repeat=5))
        numbers = Numbers(31)
        for _ in range(2000):
            lots = tuple(numbers.mixed(rows)[:8])
            self.soon(filled_bits, lots)


class NearestTest(Case):
    """6.4"""

    def brute(self, asked, places):
        far = brute_far(asked)
        sums = [sum(far[place][goal] for goal in places) for place in range(asked[0])]
        return tuple(place for place in range(asked[0]) if sums[place] == min(sums))

    def test_by_hand(self):
        self.told((3,), nearest_of, path_web(8), [3])
        self.told((2, 3, 4, 5), nearest_of, path_web(8), [2, 5])
        self.told((2,), nearest_of, path_web(8), [2, 7, 0])
        self.told((7,), nearest_of, path_web(8), [0, 7, 7])
        self.told((0,), nearest_of, star_web(8), [1, 2, 3])
        self.told((0, 1, 2), nearest_of, star_web(8), [1, 2])
        self.told((0, 1, 2, 3), nearest_of, SQUARE, [0, 2])
        self.told((0, 1), nearest_of, two_sided_web(2, 3), [2, 3, 4])
        self.told((0, 1, 2), nearest_of, full_web(5), [2, 0, 1])

    def test_one_to_twelve_places_perhaps_alike(self):
        for many in range(1, 13):
            self.told((4,), nearest_of, path_web(8), [4] * many)
            self.told((0,), nearest_of, ONE, [0] * many)
        for many in [0, 13, 14, 1000]:
            self.refused(NoPlace, nearest_of, path_web(8), [4] * many)
            self.refused(NoPlace, nearest_of, ONE, [0] * many)
        self.told((1,), nearest_of, path_web(3), [0] * 4 + [1] * 5 + [2] * 3)

    def test_all_lists_of_few_places(self):
        for asked in FEW:
            for many in range(1, 4 if asked[0] < 4 else 3):
                for places in product(range(asked[0]), repeat=many):
                    self.told(self.brute(asked, places), nearest_of, asked, list(places))

    def test_some_of_up_to_eight(self):
        numbers = Numbers(32)
        for asked in EIGHTS:
            for many in range(1, 13):
                places = [numbers.below(asked[0]) for _ in range(many)]
                self.told(self.brute(asked, places), nearest_of, asked, places)

    def test_no_place(self):
        for asked in [ONE, path_web(2), SQUARE, CUBE]:
            for thing in [thing for thing in JUNK if repr(thing) not in ("[0]", "[1]")]:
                self.refused(NoPlace, nearest_of, asked, thing)
            for thing in JUNK + [asked[0]]:
                self.refused(NoPlace, nearest_of, asked, [thing])
                self.refused(NoPlace, nearest_of, asked, [0, thing])
                self.refused(NoPlace, nearest_of, asked, [thing, 0, 0])
                self.refused(NoPlace, nearest_of, asked, [0] * 11 + [thing])
            for thing in [(0,), (0, 0), "0", {0: 0}, 0, [[0]], [(0,)], [0, [0]]]:
                self.refused(NoPlace, nearest_of, asked, thing)


class SoTest(Case):
    """6.5"""

    def test_a_web_with_middles_lies_in_a_cube_and_their_addresses_are_majorities(self):
        found = 0
        for asked in JOINED:
            if self.ask(has_middles, asked):
                found += 1
                self.assertTrue(brute_lies(asked))
                self.told(True, lies, asked)
                rows = self.ask(addresses_of, asked)
                for a, b, c in product(range(asked[0]), repeat=3):
                    place, = self.ask(middles_of, asked, a, b, c)
                    self.told(rows[place], majority, rows[a], rows[b], rows[c])
        self.assertGreater(found, 100)

    def test_of_a_web_that_lies_in_a_cube_the_middle_is_the_majority_where_that_is_a_place(self):
        for asked in [asked for asked in JOINED if brute_lies(asked)]:
            rows = brute_addresses(asked)
            for a, b, c in combinations(range(asked[0]), 3):
                row = self.ask(majority, rows[a], rows[b], rows[c])
                due = (rows.index(row),) if row in rows else ()
                self.told(due, middles_of, asked, a, b, c)
            if len(rows[0]) < 6:
                full = tuple(sorted(rows)) == self.ask(filled_bits, rows)
                self.told(full, has_middles, asked)

    def test_in_a_web_with_middles_the_nearest_of_three_is_their_middle_alone(self):
        for asked in JOINED:
            if self.ask(has_middles, asked):
                for a, b, c in product(range(asked[0]), repeat=3):
                    self.told(self.ask(middles_of, asked, a, b, c), nearest_of, asked, [a, b, c])

    def test_the_samples_hold_both(self):
        great = [self.ask(has_middles, asked) for asked in EIGHTS]
        self.assertGreater(great.count(True), 10)
        self.assertGreater(great.count(False), 10)
        self.assertIn(LADDER, EIGHTS)
        some = [asked for asked in EIGHTS if brute_lies(asked) and not self.ask(has_middles, asked)]
        self.assertGreater(len(some), 3)


if __name__ == "__main__":
    unittest.main()
