"""Stage 4, halves and closed lots: 4.1 to 4.4."""

import unittest
from itertools import product

from cubewebs.errors import Apart, NoPlace, NoTie
from cubewebs.halves import closed_good, closed_lots, first_open, halves_of, hull_of, left_by, open_good
from cubewebs.lying import lies
from cubewebs.together import odd_ring, together
from samples import (
    CUBE, GREAT, JUNK, LADDER, NO_RISING, Case, all_pairs, all_rising, all_webs, brute_far, brute_joined,
    brute_least_ways, brute_lies, brute_rings, brute_table, deep, full_web, junk_but, path_web, plus, ring_web,
    star_web, two_sided_web, web,
)

FEW = [asked for asked in all_webs(5) if brute_joined(asked)]
EIGHTS = [asked for asked in GREAT if brute_joined(asked)]
JOINED = FEW + EIGHTS
LOOSE = [asked for asked in list(all_webs(4)) + GREAT if not brute_joined(asked)]

# Its ties are numbered (0, 1), (0, 3), (1, 2), (2, 3).
SQUARE = ring_web(4)
SIX = ring_web(6)


def brute_halves(asked, number):
    far = brute_far(asked)
    one, other = asked[1][number]
    halves = ([], [], [])
    for place in range(asked[0]):
        side = 0 if far[one][place] < far[other][place] else 1 if far[one][place] > far[other][place] else 2
        halves[side].append(place)
    return tuple(tuple(half) for half in halves)


def brute_within(asked):
    """By pairs of places, what is between them."""
    far = brute_far(asked)
    return {(a, b): [place for place in range(asked[0]) if far[a][place] + far[place][b] == far[a][b]]
            for a, b in all_pairs(asked[0])}


def brute_left(within, lot):
    """All (a, b, place) by which a lot is not closed, rising."""
    return [(a, b, place) for a, b in sorted(within) if a in lot and b in lot
            for place in within[a, b] if place not in lot]


def brute_closed(asked):
    within = brute_within(asked)
    return [lot for lot in all_rising(asked[0]) if not brute_left(within, lot)]


def brute_open(asked):
    """All open ties, rising."""
    within = brute_within(asked)
    return [(number, side, *left) for number in range(len(asked[1])) for side in range(2)
            for left in brute_left(within, brute_halves(asked, number)[side])]


class ApartTest(Case):
    """4.1: webs that are not joined are refused ahead of all else."""

    def test_webs_that_are_not_joined(self):
        for asked in LOOSE:
            self.refused(Apart, halves_of, asked, 0)
            self.refused(Apart, closed_good, asked, ())
            self.refused(Apart, closed_lots, asked)
            self.refused(Apart, hull_of, asked, (0,))
            self.refused(Apart, left_by, asked, (0,))
            self.refused(Apart, open_good, asked, (0, 0, 0, 1, 2))
            self.refused(Apart, first_open, asked)

    def test_ahead_of_no_tie_no_place_and_whatever_is_handed_in(self):
        for asked in [(2, ()), web(4, (0, 1), (0, 2), (1, 2)), web(8, *ring_web(7)[1])]:
            for thing in JUNK:
                for call in [halves_of, closed_good, hull_of, left_by, open_good]:
                    self.refused(Apart, call, asked, thing)

    def test_a_web_of_one_place_is_joined(self):
        one = (1, ())
        self.refused(NoTie, halves_of, one, 0)
        self.told([(), (0,)], closed_lots, one)
        self.told(True, closed_good, one, ())
        self.told(True, closed_good, one, (0,))
        self.told((), hull_of, one, ())
        self.told((0,), hull_of, one, (0,))
        self.told(None, left_by, one, (0,))
        self.told(None, left_by, one, ())
        self.told(None, first_open, one)
        self.told(False, open_good, one, (0, 0, 0, 0, 0))


class HalvesTest(Case):
    """4.1"""

    def test_by_hand(self):
        self.told(((0,), (1,), ()), halves_of, path_web(2), 0)
        self.told(((0, 3), (1, 2), ()), halves_of, SQUARE, 0)
        self.told(((0, 1), (2, 3), ()), halves_of, SQUARE, 1)
        self.told(((0,), (1,), (2,)), halves_of, full_web(3), 0)
        self.told(((1,), (2,), (0,)), halves_of, full_web(3), 2)
        self.told(((0, 4), (1, 2), (3,)), halves_of, ring_web(5), 0)
        self.told(((0, 1, 2), (3, 4, 5, 6, 7), ()), halves_of, path_web(8), 2)
        self.told(((0, 2, 4, 6), (1, 3, 5, 7), ()), halves_of, CUBE, 0)
        self.told(((6,), (7,), (0, 1, 2, 3, 4, 5)), halves_of, full_web(8), 27)
        self.told(((0, 1, 3, 4), (2,), ()), halves_of, star_web(5), 1)

    def test_over_many_webs(self):
        for asked in JOINED:
            for number in range(len(asked[1])):
                self.told(brute_halves(asked, number), halves_of, asked, number)

    def test_no_tie(self):
        for asked in [(1, ()), path_web(2), SQUARE, full_web(8)]:
            for thing in JUNK + [len(asked[1]), (0, 1)]:
                self.refused(NoTie, halves_of, asked, thing)


class ClosedTest(Case):
    """4.2: what is closed"""

    def test_by_hand(self):
        self.told([(), (0,), (0, 1), (1,)], closed_lots, path_web(2))
        self.told([(), (0,), (0, 1), (0, 1, 2), (1,), (1, 2), (2,)], closed_lots, path_web(3))
        self.told([(), (0,), (0, 1), (0, 1, 2, 3), (0, 3), (1,), (1, 2), (2,), (2, 3), (3,)], closed_lots, SQUARE)
        self.told(all_rising(8), closed_lots, full_web(8))
        self.told(True, closed_good, SIX, (0, 1, 2))
        self.told(False, closed_good, SIX, (0, 1, 2, 3))
        self.told(False, closed_good, SIX, (0, 2))
        self.told(True, closed_good, ring_web(7), (0, 1, 2, 3))
        self.told(False, closed_good, CUBE, (0, 1, 2, 3, 4, 5, 6))
        self.told(True, closed_good, CUBE, (0, 1, 4, 5))

    def test_lots_of_no_place_of_one_and_of_all(self):
        for asked in JOINED:
            self.told(True, closed_good, asked, ())
            self.told(True, closed_good, asked, tuple(range(asked[0])))
            for place in range(asked[0]):
                self.told(True, closed_good, asked, (place,))

    def test_all_lots_over_many_webs(self):
        for asked in JOINED:
            self.told(brute_closed(asked), closed_lots, asked)

    def test_each_lot_by_itself(self):
        for asked in [asked for asked in FEW if asked[0] < 5] + EIGHTS[::6]:
            closed = brute_closed(asked)
            for lot in all_rising(asked[0]):
                self.told(lot in closed, closed_good, asked, lot)

    def test_between_is_by_least_ways(self):
        for asked in EIGHTS[::9]:
            within = {pair: {place for way in brute_least_ways(asked, *pair) for place in way}
                      for pair in all_pairs(asked[0])}
            due = [lot for lot in all_rising(asked[0]) if all(within[pair] <= set(lot) for pair in within
                                                              if set(pair) <= set(lot))]
            self.told(due, closed_lots, asked)

    def test_whatever_is_handed_in(self):
        three = full_web(3)
        for thing in NO_RISING:
            self.told(False, closed_good, three, thing)
        for lot in all_rising(3):
            self.told(True, closed_good, three, lot)
            for times in range(1, 8):
                self.told(False, closed_good, three, deep(lot, times))
        for thing in junk_but((), (0,)):
            self.told(False, closed_good, (1, ()), thing)
        for thing in [(8,), (0, 8), tuple(range(9)), (0, 1, 2, 3, 4, 5, 7, 6), (7, 7), (-1,), (False, 1), (0, True)]:
            self.told(False, closed_good, full_web(8), thing)

    def test_told_lists_are_new(self):
        for asked in [SQUARE, CUBE, full_web(4)]:
            due = repr(closed_lots(asked))
            spoilt = closed_lots(asked)
            spoilt.reverse()
            spoilt.append("spoilt")
            self.assertEqual(repr(closed_lots(asked)), due)


class HullTest(Case):
    """4.2: the least closed lot, and what leaves a lot open"""

    def test_by_hand(self):
        self.told((0, 1, 2, 3), hull_of, path_web(5), (0, 3))
        self.told((0, 3, 2), left_by, path_web(5), (0, 1, 3))
        self.told((0, 1, 2, 3), hull_of, SQUARE, (1, 3))
        self.told((1, 3, 0), left_by, SQUARE, (1, 3))
        self.told((1, 3, 0), left_by, SQUARE, (1, 2, 3))
        self.told((0, 1, 2, 3, 4, 5), hull_of, SIX, (0, 3))
        self.told((0, 3, 1), left_by, SIX, (0, 3))
        self.told((0, 1, 2, 3, 4, 5, 6, 7), hull_of, CUBE, (1, 6))
        self.told((0, 1, 4, 5), hull_of, CUBE, (0, 5))
        self.told((0, 4, 3), left_by, path_web(6), (0, 1, 2, 4, 5))
        self.told((1, 4, 3), left_by, path_web(6), (1, 2, 4))

    def test_what_is_between_may_have_more_between_it(self):
        # 0 and 2 have 1 and 3 between them; of these and 0 and 2, 1 and 3 have 4 between them.
        asked = two_sided_web(2, 3)
        self.told((0, 1, 2, 3, 4), hull_of, asked, (0, 1))
        self.told((0, 1, 2, 3, 4), hull_of, asked, (2, 3))
        self.told((0, 1, 2), left_by, asked, (0, 1))
        chain = web(7, (0, 1), (1, 2), (0, 3), (2, 3), (1, 4), (3, 4), (4, 5), (5, 6))
        self.told((0, 1, 2, 3, 4), hull_of, chain, (0, 2))

    def test_over_many_webs(self):
        for asked in [asked for asked in FEW if asked[0] < 5] + FEW[-40:] + EIGHTS[::4]:
            closed = brute_closed(asked)
            within = brute_within(asked)
            for lot in all_rising(asked[0]):
                around = [other for other in closed if set(lot) <= set(other)]
                due = tuple(place for place in range(asked[0]) if all(place in other for other in around))
                self.told(due, hull_of, asked, lot)
                left = brute_left(within, lot)
                self.told(left[0] if left else None, left_by, asked, lot)

    def test_of_a_closed_lot_it_is_the_lot_and_nothing_is_left(self):
        for asked in JOINED[::3]:
            for lot in brute_closed(asked)[::5]:
                self.told(lot, hull_of, asked, lot)
                self.told(None, left_by, asked, lot)

    def test_no_place(self):
        for call in [hull_of, left_by]:
            for thing in NO_RISING:
                self.refused(NoPlace, call, path_web(3), thing)
            for thing in junk_but((), (0,)):
                self.refused(NoPlace, call, (1, ()), thing)
            for many in range(2, 9):
                for thing in [(many,), (0, many), tuple(range(many + 1)), (-1,), (-1, 0), (1, 0), (0, 0), [0],
                              (0, True), (False,), 0, None, "0", ((0,),), tuple(reversed(range(many)))]:
                    self.refused(NoPlace, call, path_web(many), thing)
            for times in range(1, 8):
                self.refused(NoPlace, call, path_web(3), deep((0, 2), times))


class OpenTest(Case):
    """4.3"""

    def test_by_hand(self):
        # Of the tie (0, 2) the first half has 0, 3 and 4; 3 and 4 have 1 between them.
        asked = two_sided_web(2, 3)
        self.assertEqual(halves_of(asked, 0), ((0, 3, 4), (1, 2), ()))
        self.told((0, 0, 3, 4, 1), first_open, asked)
        self.told(True, open_good, asked, (0, 0, 3, 4, 1))
        self.told(False, open_good, asked, (0, 1, 3, 4, 1))
        self.told(False, open_good, asked, (0, 0, 4, 3, 1))
        self.told(False, open_good, asked, (0, 0, 3, 4, 0))
        self.told(False, open_good, asked, (0, 0, 3, 4, 2))
        for asked in [(1, ()), path_web(8), SQUARE, SIX, ring_web(8), CUBE, LADDER, star_web(8), full_web(8)]:
            self.told(None, first_open, asked)

    def test_over_many_webs(self):
        sides = {0: 0, 1: 0}
        for asked in JOINED:
            ties = brute_open(asked)
            self.told(ties[0] if ties else None, first_open, asked)
            for tie in ties[:60:4]:
                sides[tie[1]] += 1
                self.told(True, open_good, asked, tie)
        self.assertGreater(min(sides.values()), 20)

    def test_the_first_one_may_be_of_the_second_half(self):
        firsts = {}
        for asked in JOINED:
            found = self.ask(first_open, asked)
            if found is not None:
                firsts[found[0] > 0, found[1]] = True
        self.assertEqual(len(firsts), 4)

    def test_all_tuples_of_numbers(self):
        for asked in [two_sided_web(2, 3), SQUARE, plus(ring_web(6), (0, 2)), plus(SQUARE, (0, 2)),
                      web(5, *SQUARE[1], (0, 4), (2, 4))]:
            ties = brute_open(asked)
            every = range(-1, asked[0] + 1)
            for number, side in product(range(-1, len(asked[1]) + 1), range(-1, 3)):
                for a, b, place in product(every, repeat=3):
                    thing = (number, side, a, b, place)
                    self.told(thing in ties, open_good, asked, thing)

    def test_truths_are_no_numbers(self):
        for asked in JOINED[::11] + [two_sided_web(2, 3)]:
            for tie in brute_open(asked)[:40]:
                for at in range(5):
                    if tie[at] in (0, 1):
                        self.told(False, open_good, asked, tie[:at] + (bool(tie[at]),) + tie[at + 1:])

    def test_what_is_near_an_open_tie(self):
        asked = two_sided_web(2, 3)
        tie = (0, 0, 3, 4, 1)
        for thing in [list(tie), tie[:4], tie + (1,), tie[1:], (tie,), (0, 0, (3, 4, 1)), (0, 0, 3, 4), "00341",
                      {0: 0, 1: 3, 2: 4}, (0, 0, 3, 4, "1"), (0, 0, 3, 4, None), (0, 0, 3, 4, (1,)), (0, 0, [3], 4, 1),
                      (-6, 0, 3, 4, 1), (0, -2, 3, 4, 1), (0, 0, -2, 4, 1), (0, 0, 3, -1, 1), (0, 0, 3, 4, -4),
                      (6, 0, 3, 4, 1), (0, 2, 3, 4, 1), (0, 0, 3, 5, 1), (10 ** 39, 0, 3, 4, 1)]:
            self.told(False, open_good, asked, thing)

    def test_whatever_is_handed_in(self):
        for asked in [(1, ()), SQUARE, two_sided_web(2, 3), full_web(8)]:
            for thing in JUNK:
                self.told(False, open_good, asked, thing)
                for at in range(5):
                    tie = (0, 0, 3, 4, 1)
                    self.told(False, open_good, asked, tie[:at] + (thing,) + tie[at + 1:])
            for times in range(1, 8):
                self.told(False, open_good, asked, deep((0, 0, 3, 4, 1), times))

    def test_a_web_without_odd_rings_lies_in_a_cube_just_where_there_is_none(self):
        found = {True: 0, False: 0}
        for asked in JOINED:
            if not any(brute_rings(asked, size) for size in (3, 5, 7)):
                self.assertIsNone(self.ask(odd_ring, asked))
                due = brute_lies(asked)
                found[due] += 1
                self.assertEqual(self.ask(first_open, asked) is None, due)
                self.told(due, lies, asked)
        self.assertGreater(min(found.values()), 5)


class SoTest(Case):
    """4.4"""

    def test_halves_and_those_as_far_from_both_have_each_place_once(self):
        for asked in JOINED:
            for number in range(len(asked[1])):
                halves = self.ask(halves_of, asked, number)
                self.assertEqual(sorted(place for half in halves for place in half), list(range(asked[0])))

    def test_without_odd_rings_none_is_as_far_from_both(self):
        for asked in JOINED:
            last = [self.ask(halves_of, asked, number)[2] for number in range(len(asked[1]))]
            odd = any(brute_rings(asked, size) for size in (3, 5, 7))
            self.assertEqual(any(last), odd)

    def test_halves_of_two_ties_that_go_together_are_alike_perhaps_exchanged(self):
        exchanged = {True: 0, False: 0}
        for asked in JOINED:
            if brute_lies(asked):
                table = brute_table(asked)
                halves = [self.ask(halves_of, asked, number) for number in range(len(asked[1]))]
                for one, other in all_pairs(len(halves)):
                    alike = halves[one] == halves[other]
                    crossed = halves[one] == (halves[other][1], halves[other][0], halves[other][2])
                    self.assertEqual(alike or crossed, table[one][other])
                    self.told(table[one][other], together, asked, one, other)
                    if table[one][other]:
                        exchanged[crossed] += 1
        self.assertGreater(min(exchanged.values()), 5)

    def test_a_lot_is_closed_just_where_it_is_what_some_halves_have_in_common_or_all_places(self):
        for asked in JOINED:
            if brute_lies(asked):
                every = {tuple(range(asked[0]))}
                for number in range(len(asked[1])):
                    for half in self.ask(halves_of, asked, number)[:2]:
                        every |= {tuple(place for place in lot if place in half) for lot in every}
                self.told(sorted(every | {()}), closed_lots, asked)


if __name__ == "__main__":
    unittest.main()
