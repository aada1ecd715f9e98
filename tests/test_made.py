"""Stage 8, webs made of others: 8.1 to 8.5."""

import unittest
from itertools import product

from cubewebs.addresses import addresses_good, web_by
from cubewebs.errors import NoCube, NoLine, NoPlace, TooGreat
from cubewebs.halves import closed_lots
from cubewebs.lying import lies
from cubewebs.made import (
    doubled, doubled_bits, hung_at, joined_at, pairs_bits, pairs_web, without_place,
)
from cubewebs.tallied import fewest_bits
from cubewebs.webs import web_good
from samples import (
    CUBE, GREAT, JUNK, NO_LOTS, NO_RISING, Case, all_pairs, all_rising, all_webs, brute_addresses, brute_groups,
    brute_lies, brute_tied, deep, few_lots, full_web, junk_but, path_web, ring_web, star_web, stray_lots,
    two_sided_web, web,
)

FEW = list(all_webs(4))
FIVES = [asked for asked in all_webs(5) if asked[0] == 5]
EVERY = FEW + FIVES[::7] + GREAT
SOME = FEW[::5] + FIVES[::37] + GREAT[::4]
LYING = [asked for asked in FEW + FIVES + GREAT if brute_lies(asked)]

ONE = (1, ())
TIED = path_web(2)
SQUARE = ring_web(4)


def brute_web(many, tied):
    """The web of so many places in which two are tied where the test says so."""
    return (many, tuple(pair for pair in all_pairs(many) if tied(*pair)))


def brute_pairs(one, other):
    places = list(product(range(one[0]), range(other[0])))

    def tied(a, b):
        (i, j), (k, m) = places[a], places[b]
        return i == k and brute_tied(other, j, m) or j == m and brute_tied(one, i, k)

    return brute_web(len(places), tied)


def brute_joined_at(one, place, other, there):
    """Each place has one or two names: that in the one web, and that in the other one."""
    behind = [k for k in range(other[0]) if k != there]
    names = [(k, there if k == place else None) for k in range(one[0])] + [(None, k) for k in behind]

    def tied(a, b):
        ends = zip((one, other), zip(names[a], names[b]))
        return any(None not in pair and brute_tied(asked, *pair) for asked, pair in ends)

    return brute_web(len(names), tied)


def brute_doubled(asked, lot):
    places = [(place, 0) for place in range(asked[0])] + [(place, 1) for place in lot]

    def tied(a, b):
        (one, side), (other, there) = places[a], places[b]
        return brute_tied(asked, one, other) if side == there else one == other

    return brute_web(len(places), tied)


def brute_without(asked, place):
    kept = [k for k in range(asked[0]) if k != place]
    return brute_web(len(kept), lambda a, b: brute_tied(asked, kept[a], kept[b]))


class GreatCase(Case):
    def too_great(self, many, most, call, *handed):
        refusal = self.refused(TooGreat, call, *handed)
        self.assertEqual(repr((refusal.many, refusal.most)), repr((many, most)))


class PairsTest(GreatCase):
    """8.1: webs of pairs"""

    def test_by_hand(self):
        self.told(ONE, pairs_web, ONE, ONE)
        self.told(SQUARE[:1] + (((0, 1), (0, 2), (1, 3), (2, 3)),), pairs_web, TIED, TIED)
        # The other one's places come first: 0 1 2 are the pairs (0, 0), (0, 1), (0, 2).
        self.told(web(6, (0, 1), (1, 2), (3, 4), (4, 5), (0, 3), (1, 4), (2, 5)), pairs_web, TIED, path_web(3))
        self.told(web(6, (0, 1), (2, 3), (4, 5), (0, 2), (2, 4), (1, 3), (3, 5)), pairs_web, path_web(3), TIED)
        self.told(CUBE, pairs_web, TIED, pairs_web(TIED, TIED))
        self.told((8, ()), pairs_web, (2, ()), (4, ()))
        self.told(web(4, (0, 2), (1, 3)), pairs_web, TIED, (2, ()))
        self.told(web(4, (0, 1), (2, 3)), pairs_web, (2, ()), TIED)

    def test_with_one_place_it_is_the_other(self):
        for asked in EVERY:
            self.told(asked, pairs_web, ONE, asked)
            self.told(asked, pairs_web, asked, ONE)

    def test_over_many_webs(self):
        for one in FEW:
            for other in FEW:
                if one[0] * other[0] < 9 and (one[0] + other[0] < 6 or len(one[1]) in (2, 3)):
                    self.told(brute_pairs(one, other), pairs_web, one, other)

    def test_too_great(self):
        for one, other in product(range(1, 9), repeat=2):
            handed = (path_web(one) if one > 1 else ONE, (other, ()))
            if one * other > 8:
                self.too_great(one * other, 8, pairs_web, *handed)
                self.too_great(one * other, 8, pairs_web, *reversed(handed))
            else:
                self.told(brute_pairs(*handed), pairs_web, *handed)
        self.too_great(9, 8, pairs_web, path_web(3), path_web(3))
        self.too_great(64, 8, pairs_web, CUBE, CUBE)


class JoinedTest(GreatCase):
    """8.1: webs joined at a place"""

    def test_by_hand(self):
        self.told(ONE, joined_at, ONE, 0, ONE, 0)
        self.told(path_web(3), joined_at, TIED, 1, TIED, 0)
        self.told(web(3, (0, 1), (1, 2)), joined_at, TIED, 1, TIED, 1)
        self.told(web(3, (0, 1), (0, 2)), joined_at, TIED, 0, TIED, 1)
        # The other one's places 0, 1, 3 follow as 4, 5, 6; its place 2 is the first one's 3.
        self.told(web(7, (0, 1), (1, 2), (2, 3), (0, 3), (4, 5), (3, 5), (3, 6)), joined_at, SQUARE, 3, path_web(4), 2)
        self.told(web(5, (1, 2), (2, 3), (3, 4), (1, 4)), joined_at, (2, ()), 1, SQUARE, 0)

    def test_with_one_place_it_is_the_web_itself(self):
        for asked in EVERY:
            for place in range(asked[0]):
                self.told(asked, joined_at, asked, place, ONE, 0)
                names = [place] + [k for k in range(asked[0]) if k != place]
                due = brute_web(asked[0], lambda a, b: brute_tied(asked, names[a], names[b]))
                self.told(due, joined_at, ONE, 0, asked, place)

    def test_over_many_webs(self):
        for one in SOME:
            for other in SOME:
                if one[0] + other[0] < 10:
                    for place, there in product(range(one[0]), range(other[0])):
                        self.told(brute_joined_at(one, place, other, there), joined_at, one, place, other, there)

    def test_no_place(self):
        for asked in [ONE, SQUARE, CUBE]:
            for thing in JUNK + [asked[0], (0,)]:
                self.refused(NoPlace, joined_at, asked, thing, TIED, 0)
                self.refused(NoPlace, joined_at, TIED, 0, asked, thing)
                self.refused(NoPlace, joined_at, asked, thing, asked, thing)
        # Each place is one of its own web.
        self.refused(NoPlace, joined_at, SQUARE, 3, TIED, 2)
        self.refused(NoPlace, joined_at, TIED, 2, SQUARE, 3)
        self.ask(joined_at, TIED, 1, SQUARE, 3)

    def test_too_great(self):
        for one, other in product(range(1, 9), repeat=2):
            handed = ((one, ()), one - 1, full_web(other) if other > 1 else ONE, 0)
            if one + other > 9:
                self.too_great(one + other - 1, 8, joined_at, *handed)
            else:
                self.told(brute_joined_at(*handed), joined_at, *handed)
        self.too_great(15, 8, joined_at, CUBE, 7, CUBE, 7)

    def test_no_place_goes_ahead_of_too_great(self):
        for thing in JUNK + [8]:
            self.refused(NoPlace, joined_at, CUBE, thing, CUBE, 0)
            self.refused(NoPlace, joined_at, CUBE, 0, CUBE, thing)


class HungTest(GreatCase):
    """8.2: a place hung on"""

    def test_by_hand(self):
        self.told(TIED, hung_at, ONE, 0)
        self.told(path_web(3), hung_at, TIED, 1)
        self.told(web(3, (0, 1), (0, 2)), hung_at, TIED, 0)
        self.told(web(5, *SQUARE[1], (2, 4)), hung_at, SQUARE, 2)
        self.told(web(3, (0, 2)), hung_at, (2, ()), 0)

    def test_over_many_webs(self):
        for asked in EVERY:
            if asked[0] < 8:
                for place in range(asked[0]):
                    self.told((asked[0] + 1, tuple(sorted(asked[1] + ((place, asked[0]),)))), hung_at, asked, place)

    def test_no_place_ahead_of_too_great(self):
        for asked in [ONE, SQUARE, path_web(7), CUBE, (8, ())]:
            for thing in JUNK + [asked[0]]:
                self.refused(NoPlace, hung_at, asked, thing)
        for asked in [CUBE, (8, ()), full_web(8)]:
            for place in range(8):
                self.too_great(9, 8, hung_at, asked, place)


class DoubledTest(GreatCase):
    """8.2: webs doubled along a lot of places"""

    def test_by_hand(self):
        self.told(TIED, doubled, ONE, (0,))
        self.told(web(4, (0, 1), (0, 2), (1, 3), (2, 3)), doubled, TIED, (0, 1))
        self.told(web(3, (0, 1), (1, 2)), doubled, TIED, (1,))
        self.told(CUBE, doubled, web(4, (0, 1), (0, 2), (1, 3), (2, 3)), (0, 1, 2, 3))
        # The new places 4 and 5 stand for 1 and 3, which are not tied.
        self.told(web(6, (0, 1), (1, 2), (2, 3), (1, 4), (3, 5)), doubled, path_web(4), (1, 3))
        self.told(web(6, (0, 1), (1, 2), (2, 3), (1, 4), (2, 5), (4, 5)), doubled, path_web(4), (1, 2))

    def test_over_many_webs(self):
        for asked in SOME:
            for lot in all_rising(asked[0]):
                if lot and asked[0] + len(lot) < 9:
                    self.told(brute_doubled(asked, lot), doubled, asked, lot)

    def test_along_one_place_it_is_hung_at(self):
        for asked in EVERY:
            if asked[0] < 8:
                for place in range(asked[0]):
                    self.told(self.ask(hung_at, asked, place), doubled, asked, (place,))

    def test_whole(self):
        for asked in [asked for asked in EVERY if asked[0] < 5]:
            self.told(brute_pairs(TIED, asked), doubled, asked, tuple(range(asked[0])))

    def test_no_place(self):
        for asked in [path_web(3), (3, ()), full_web(3)]:
            for thing in NO_RISING + [()]:
                self.refused(NoPlace, doubled, asked, thing)
            for lot in all_rising(3)[1:]:
                self.told(brute_doubled(asked, lot), doubled, asked, lot)
        for thing in junk_but((0,)):
            self.refused(NoPlace, doubled, ONE, thing)
        for many in range(2, 9):
            for thing in [(), [], None, 0, (many,), (0, many), (0, 0), (1, 0), (-1,), (-1, 0), [0, 1], (0, True),
                          tuple(range(many + 1)), tuple(reversed(range(many))), (False,), {}, "0", ((0,),)]:
                self.refused(NoPlace, doubled, path_web(many), thing)
        for times in range(1, 8):
            self.refused(NoPlace, doubled, path_web(4), deep((0, 1), times))

    def test_too_great(self):
        for many in range(1, 9):
            for size in range(1, many + 1):
                for lot in [tuple(range(size)), tuple(range(many - size, many))]:
                    if many + size > 8:
                        self.too_great(many + size, 8, doubled, (many, ()), lot)
                    else:
                        self.told(brute_doubled((many, ()), lot), doubled, (many, ()), lot)
        self.too_great(16, 8, doubled, CUBE, tuple(range(8)))
        self.refused(NoPlace, doubled, CUBE, tuple(range(9)))
        self.refused(NoPlace, doubled, CUBE, (8,))


class PairsBitsTest(GreatCase):
    """8.3: pairs of bits"""

    def test_by_hand(self):
        self.told(((),), pairs_bits, ((),), ((),))
        self.told(((1,),), pairs_bits, ((),), ((1,),))
        self.told(((0, 1), (0, 0), (1, 1), (1, 0)), pairs_bits, ((0,), (1,)), ((1,), (0,)))
        self.told(((1, 0, 0, 1), (0, 1, 0, 1)), pairs_bits, ((1, 0), (0, 1)), ((0, 1),))
        self.told(((0, 1, 1, 0), (0, 1, 0, 1)), pairs_bits, ((0, 1),), ((1, 0), (0, 1)))
        self.told((((1,) * 12),), pairs_bits, ((1,) * 12,), ((),))
        self.told((((0,) * 5 + (1,) * 7),), pairs_bits, ((0,) * 5,), ((1,) * 7,))

    def test_over_many_lots(self):
        some = few_lots(1) + few_lots(2)[::5] + stray_lots(60)
        for one in some:
            for other in some:
                many, width = len(one) * len(other), len(one[0]) + len(other[0])
                if many > 8:
                    self.too_great(many, 8, pairs_bits, one, other)
                elif width > 12:
                    self.too_great(width, 12, pairs_bits, one, other)
                else:
                    due = tuple(one[k // len(other)] + other[k % len(other)] for k in range(many))
                    self.told(due, pairs_bits, one, other)
                    self.ask(web_by, due)

    def test_no_cube_goes_ahead_of_too_great(self):
        eight = tuple(product((0, 1), repeat=3))
        for thing in NO_LOTS:
            self.refused(NoCube, pairs_bits, thing, eight)
            self.refused(NoCube, pairs_bits, eight, thing)
            self.refused(NoCube, pairs_bits, thing, thing)
            self.refused(NoCube, pairs_bits, thing, ((1,) * 12,))
            self.refused(NoCube, pairs_bits, ((1,) * 12,), thing)
            self.refused(NoCube, pairs_bits, thing, ((),))
            self.refused(NoCube, pairs_bits, ((),), thing)

    def test_tuples_go_ahead_of_bits(self):
        rows = tuple(tuple(row) + (0,) * 9 for row in product((0, 1), repeat=3))
        self.too_great(64, 8, pairs_bits, rows, rows)
        self.too_great(9, 8, pairs_bits, rows[:3], rows[5:])
        self.too_great(24, 12, pairs_bits, rows[:2], rows[4:])
        self.too_great(13, 12, pairs_bits, rows, ((1,),))
        self.too_great(16, 8, pairs_bits, rows, ((1,), (0,)))


class DoubledBitsTest(GreatCase):
    """8.3: lots doubled along some of them"""

    def test_by_hand(self):
        self.told(((0,), (1,)), doubled_bits, ((),), (0,))
        self.told(((0, 0), (1, 0), (1, 1)), doubled_bits, ((0,), (1,)), (1,))
        self.told(((0, 0), (1, 0), (0, 1), (1, 1)), doubled_bits, ((0,), (1,)), (0, 1))
        due = ((1, 1, 0), (0, 1, 0), (0, 0, 0), (1, 1, 1), (0, 0, 1))
        self.told(due, doubled_bits, ((1, 1), (0, 1), (0, 0)), (0, 2))
        self.told(((1,) * 11 + (0,), (1,) * 12), doubled_bits, ((1,) * 11,), (0,))

    def test_over_many_lots(self):
        for lots in few_lots(2)[::2] + stray_lots(80):
            for some in all_rising(len(lots))[1:]:
                if len(lots) + len(some) > 8:
                    self.too_great(len(lots) + len(some), 8, doubled_bits, lots, some)
                elif len(lots[0]) == 12:
                    self.too_great(13, 12, doubled_bits, lots, some)
                else:
                    due = [list(row) + [0] for row in lots] + [list(lots[k]) + [1] for k in some]
                    self.told(tuple(map(tuple, due)), doubled_bits, lots, some)

    def test_no_cube_ahead_of_no_line_and_too_great(self):
        for thing in NO_LOTS:
            for numbers in [(0,), (), None, (9,), (0, 0), [0]]:
                self.refused(NoCube, doubled_bits, thing, numbers)

    def test_no_line(self):
        lots = ((0, 1), (1, 1), (1, 0))
        for thing in NO_RISING + [()]:
            self.refused(NoLine, doubled_bits, lots, thing)
        for some in all_rising(3)[1:]:
            self.ask(doubled_bits, lots, some)
        for thing in junk_but((0,)):
            self.refused(NoLine, doubled_bits, ((),), thing)
            self.refused(NoLine, doubled_bits, ((1,) * 12,), thing)
        # Numbers are those of tuples, not of bits.
        self.refused(NoLine, doubled_bits, ((0, 0, 0),), (1,))
        self.told(((0,), (1,)), doubled_bits, ((),), (0,))

    def test_no_line_goes_ahead_of_too_great(self):
        eight = tuple(product((0, 1), repeat=3))
        for thing in [(8,), (), (0, 8), tuple(range(9)), (1, 0), (0, 0), [0], None, (True,), (-1,)]:
            self.refused(NoLine, doubled_bits, eight, thing)
        self.refused(NoLine, doubled_bits, ((0,) * 12,), (1,))
        self.refused(NoLine, doubled_bits, ((0,) * 12,), ())

    def test_tuples_go_ahead_of_bits(self):
        rows = tuple(tuple(row) + (0,) * 9 for row in product((0, 1), repeat=3))
        self.too_great(9, 8, doubled_bits, rows, (7,))
        self.too_great(16, 8, doubled_bits, rows, tuple(range(8)))
        self.too_great(13, 12, doubled_bits, rows[:7], (6,))
        self.too_great(13, 12, doubled_bits, rows[:4], (0, 1, 2, 3))
        self.too_great(9, 8, doubled_bits, rows[:5], (0, 1, 2, 3))


class WithoutTest(GreatCase):
    """8.4"""

    def test_by_hand(self):
        self.told(ONE, without_place, TIED, 0)
        self.told(ONE, without_place, TIED, 1)
        self.told(ONE, without_place, (2, ()), 1)
        self.told((2, ()), without_place, path_web(3), 1)
        self.told(TIED, without_place, path_web(3), 0)
        self.told(web(3, (0, 2), (1, 2)), without_place, web(4, (0, 1), (1, 3), (2, 3), (0, 3)), 1)
        self.told(path_web(7), without_place, ring_web(8), 7)
        self.told(full_web(7), without_place, full_web(8), 3)

    def test_over_many_webs(self):
        for asked in EVERY:
            if asked[0] > 1:
                for place in range(asked[0]):
                    self.told(brute_without(asked, place), without_place, asked, place)

    def test_no_place(self):
        for asked in [(2, ()), SQUARE, CUBE]:
            for thing in JUNK + [asked[0]]:
                self.refused(NoPlace, without_place, asked, thing)

    def test_a_web_of_one_place_stays(self):
        for thing in JUNK + [0, 1]:
            self.refused(NoPlace, without_place, ONE, thing)


class SoTest(Case):
    """8.5"""

    def bits_more(self, many, made):
        self.assertTrue(brute_lies(made))
        self.told(True, web_good, made)
        self.told(True, lies, made)
        self.told(many, fewest_bits, made)

    def test_of_two_webs_that_lie_in_cubes_so_do_those_of_both_with_as_many_bits_as_both(self):
        for one in LYING[::2]:
            for other in LYING[::3]:
                many = len(brute_groups(one)) + len(brute_groups(other))
                if one[0] * other[0] < 9:
                    self.bits_more(many, self.ask(pairs_web, one, other))
                if one[0] + other[0] < 10 and one[0] in (1, 2, 4, 5):
                    self.bits_more(many, self.ask(joined_at, one, one[0] - 1, other, other[0] // 2))

    def test_with_a_place_hung_on_there_is_one_bit_more(self):
        for asked in LYING:
            if asked[0] < 8:
                for place in range(asked[0]):
                    self.bits_more(len(brute_groups(asked)) + 1, self.ask(hung_at, asked, place))

    def test_doubled_along_a_closed_lot_there_is_one_bit_more(self):
        for asked in LYING[::2]:
            for lot in self.ask(closed_lots, asked)[1:]:
                if asked[0] + len(lot) < 9:
                    self.bits_more(len(brute_groups(asked)) + 1, self.ask(doubled, asked, lot))

    def test_along_a_lot_that_is_not_closed_it_may_take_more(self):
        self.bits_more(4, self.ask(doubled, path_web(3), (0, 2)))
        self.bits_more(4, self.ask(doubled, SQUARE, (0, 2)))
        self.bits_more(3, self.ask(doubled, SQUARE, (0, 1)))

    def test_pairs_of_addresses_are_addresses_of_the_web_of_pairs(self):
        for one in LYING[::2]:
            for other in LYING[::3]:
                if one[0] * other[0] < 9:
                    rows = self.ask(pairs_bits, brute_addresses(one), brute_addresses(other))
                    self.told(True, addresses_good, self.ask(pairs_web, one, other), rows)

    def test_addresses_doubled_along_a_closed_lot_are_addresses_of_the_web_doubled(self):
        for asked in LYING[::3]:
            for lot in self.ask(closed_lots, asked)[1:]:
                if asked[0] + len(lot) < 9:
                    rows = self.ask(doubled_bits, brute_addresses(asked), lot)
                    self.told(True, addresses_good, self.ask(doubled, asked, lot), rows)

    def test_hung_at_and_then_without_its_last_place_a_web_is_as_it_was(self):
        for asked in EVERY:
            if asked[0] < 8:
                for place in range(asked[0]):
                    self.told(asked, without_place, self.ask(hung_at, asked, place), asked[0])

    def test_webs_that_lie_in_no_cube_make_none(self):
        for asked in [full_web(3), ring_web(5), two_sided_web(2, 3), (2, ())]:
            self.told(False, lies, self.ask(hung_at, asked, 0))
            self.told(False, lies, self.ask(joined_at, star_web(4), 0, asked, 1))
        self.told(False, lies, self.ask(pairs_web, TIED, full_web(3)))


if __name__ == "__main__":
    unittest.main()
