"""Stage 7, all addresses: 7.1 to 7.5."""

import unittest
from itertools import permutations

from cubewebs.addresses import addresses_good, led_bits, turned_bits
from cubewebs.errors import NoCube, NoPlace, NoTie, TooGreat
from cubewebs.lying import addresses_of
from cubewebs.tallied import (
    addresses_many, all_addresses, bit_of, fewest_bits, first_addresses, from_place, weight_table,
)
from samples import (
    CUBE, GREAT, JUNK, LADDER, Case, all_rising, all_webs, brute_addresses, brute_all_addresses, brute_far, brute_fits,
    brute_groups, brute_lies, brute_put, brute_turned, full_web, path_web, ring_web, star_web, two_sided_web, web,
)

EVERY = list(all_webs(5)) + GREAT
LYING = [asked for asked in EVERY if brute_lies(asked)]
OTHERS = [asked for asked in EVERY if not brute_lies(asked)]
FEW = [asked for asked in LYING if asked[0] < 5]

ONE = (1, ())
SQUARE = ring_web(4)
PARTS = web(6, (0, 1), (1, 2), (0, 2), (3, 4))
NO_CUBES = [(2, ()), PARTS, full_web(3), ring_web(5), two_sided_web(2, 3), web(8, *ring_web(6)[1])]


class NoCubeTest(Case):
    """7.1: webs that lie in no cube are refused ahead of all else."""

    def test_webs_that_lie_in_no_cube(self):
        for asked in OTHERS:
            self.refused(NoCube, fewest_bits, asked)
            self.refused(NoCube, bit_of, asked, 0)
            self.refused(NoCube, addresses_many, asked, 3)
            self.refused(NoCube, first_addresses, asked, 3)
            self.refused(NoCube, all_addresses, asked)
            self.refused(NoCube, from_place, asked, 0)
            self.refused(NoCube, weight_table, asked)

    def test_ahead_of_no_tie_and_no_place(self):
        for asked in NO_CUBES:
            for thing in JUNK + [asked[0], len(asked[1])]:
                self.refused(NoCube, bit_of, asked, thing)
                self.refused(NoCube, from_place, asked, thing)

    def test_ahead_of_too_great(self):
        for asked in NO_CUBES + [full_web(8), two_sided_web(4, 4)]:
            for bits in [-1, 0, 12, 13, 99, 10 ** 39]:
                self.refused(NoCube, addresses_many, asked, bits)
                self.refused(NoCube, first_addresses, asked, bits)
            self.refused(NoCube, all_addresses, asked)


class FewestTest(Case):
    """7.1"""

    def test_by_hand(self):
        for due, asked in [(0, ONE), (1, path_web(2)), (2, SQUARE), (2, path_web(3)), (3, ring_web(6)), (3, CUBE),
                           (4, ring_web(8)), (4, LADDER), (7, path_web(8)), (7, star_web(8))]:
            self.told(due, fewest_bits, asked)
        self.told(0, bit_of, SQUARE, 0)
        self.told(1, bit_of, SQUARE, 1)
        self.told(1, bit_of, SQUARE, 2)
        self.told(0, bit_of, SQUARE, 3)
        self.told(6, bit_of, path_web(8), 6)
        self.told(2, bit_of, ring_web(6), 5)

    def test_there_are_addresses_of_so_many_bits_and_none_of_fewer(self):
        for asked in LYING:
            fewest = self.ask(fewest_bits, asked)
            self.assertEqual(fewest, len(brute_groups(asked)))
            self.assertTrue(brute_fits(asked, fewest))
            self.assertFalse(fewest > 0 and brute_fits(asked, fewest - 1))

    def test_the_number_of_a_ties_group(self):
        for asked in LYING:
            for at, group in enumerate(brute_groups(asked)):
                for number in group:
                    self.told(at, bit_of, asked, number)

    def test_tied_places_differ_at_just_that_bit(self):
        for asked in LYING:
            rows = brute_addresses(asked)
            for number, (a, b) in enumerate(asked[1]):
                unlike = [bit for bit, pair in enumerate(zip(rows[a], rows[b])) if pair[0] != pair[1]]
                self.assertEqual(unlike, [self.ask(bit_of, asked, number)])

    def test_no_tie(self):
        for asked in [ONE, path_web(2), SQUARE, CUBE, path_web(8)]:
            for thing in JUNK + [len(asked[1]), (0, 1)]:
                self.refused(NoTie, bit_of, asked, thing)


class ManyTest(Case):
    """7.2: how many addresses of so many bits"""

    def test_by_hand(self):
        self.told(1, addresses_many, ONE, 0)
        self.told(2, addresses_many, ONE, 1)
        self.told(4096, addresses_many, ONE, 12)
        self.told(0, addresses_many, path_web(2), 0)
        self.told(2, addresses_many, path_web(2), 1)
        self.told(8, addresses_many, path_web(2), 2)
        self.told(0, addresses_many, SQUARE, 1)
        self.told(8, addresses_many, SQUARE, 2)
        self.told(48, addresses_many, CUBE, 3)
        self.told(384, addresses_many, CUBE, 4)
        self.told(0, addresses_many, path_web(8), 6)
        self.told(5040 * 128, addresses_many, path_web(8), 7)
        self.told(3991680 * 4096, addresses_many, path_web(8), 12)
        self.told(1320 * 4096, addresses_many, CUBE, 12)

    def test_as_many_as_there_are(self):
        for asked in FEW:
            for bits in range(6 if asked[0] < 4 else 5):
                self.told(len(list(brute_all_addresses(asked, bits))), addresses_many, asked, bits)
        for asked in [asked for asked in LYING if asked[0] > 4]:
            fewest = len(brute_groups(asked))
            if fewest < 5:
                for bits in range(5):
                    self.told(len(list(brute_all_addresses(asked, bits))), addresses_many, asked, bits)

    def test_none_of_fewer(self):
        for asked in LYING:
            for bits in range(len(brute_groups(asked))):
                self.told(0, addresses_many, asked, bits)
                self.told(None, first_addresses, asked, bits)
            self.assertGreater(self.ask(addresses_many, asked, len(brute_groups(asked))), 0)

    def test_numbers_below_nought_are_less_than_fewest(self):
        for asked in [ONE, path_web(2), SQUARE, path_web(8)]:
            for bits in [-1, -2, -13, -(10 ** 39)]:
                self.told(0, addresses_many, asked, bits)
                self.told(None, first_addresses, asked, bits)

    def test_too_great(self):
        for asked in [ONE, path_web(2), SQUARE, CUBE, path_web(8)]:
            for call in [addresses_many, first_addresses]:
                self.ask(call, asked, 12)
                for bits in [13, 14, 99, 10 ** 39]:
                    refusal = self.refused(TooGreat, call, asked, bits)
                    self.assertEqual((refusal.many, refusal.most), (bits, 12))


class FirstTest(Case):
    """7.2: the first addresses of so many bits"""

    def test_by_hand(self):
        self.told(((),), first_addresses, ONE, 0)
        self.told(((0, 0),), first_addresses, ONE, 2)
        self.told(((0,) * 12,), first_addresses, ONE, 12)
        self.told(((0, 0), (0, 1)), first_addresses, path_web(2), 2)
        self.told(((0, 0), (0, 1), (1, 1)), first_addresses, path_web(3), 2)
        self.told(((0, 0, 0), (0, 0, 1), (0, 1, 1)), first_addresses, path_web(3), 3)
        self.told(((0, 0), (0, 1), (1, 1), (1, 0)), first_addresses, SQUARE, 2)
        # Place 1 is two ties from place 0, so that two bits are 1 there.
        self.told(((0, 0), (1, 1), (0, 1)), first_addresses, web(3, (0, 2), (1, 2)), 2)
        self.told(((0, 0, 0), (0, 0, 1), (0, 1, 0), (1, 0, 0)), first_addresses, star_web(4), 3)
        self.told(tuple((0,) * (12 - k) + (1,) * k for k in range(8)), first_addresses, path_web(8), 12)

    def test_of_all_the_first_one(self):
        for asked in LYING:
            fewest = len(brute_groups(asked))
            for bits in [fewest, fewest + 1]:
                self.told(next(brute_all_addresses(asked, bits)), first_addresses, asked, bits)
        for asked in FEW:
            for bits in range(6):
                self.told(next(brute_all_addresses(asked, bits), None), first_addresses, asked, bits)

    def test_of_up_to_twelve_bits(self):
        for asked in [ONE, path_web(2), web(3, (0, 2), (1, 2)), SQUARE, star_web(5), ring_web(6), CUBE, path_web(6)]:
            for bits in [9, 12]:
                self.told(next(brute_all_addresses(asked, bits)), first_addresses, asked, bits)

    def test_they_are_addresses_of_so_many_bits(self):
        for asked in LYING:
            for bits in range(len(brute_groups(asked)), 13):
                told = self.ask(first_addresses, asked, bits)
                self.told(True, addresses_good, asked, told)
                self.assertEqual({len(row) for row in told}, {bits})
                self.assertEqual(told[0], (0,) * bits)

    def test_in_good_time_of_twelve_bits_and_eight_places(self):
        for asked in [asked for asked in LYING if asked[0] == 8]:
            told = self.soon(first_addresses, asked, 12)
            self.told(True, addresses_good, asked, told)
            self.assertGreater(self.soon(addresses_many, asked, 12), 10 ** 6)


class AllTest(Case):
    """7.3"""

    def test_by_hand(self):
        self.told([((),)], all_addresses, ONE)
        self.told([((0,), (1,)), ((1,), (0,))], all_addresses, path_web(2))
        told = self.ask(all_addresses, SQUARE)
        self.assertEqual(told[0], ((0, 0), (0, 1), (1, 1), (1, 0)))
        self.assertEqual(told[-1], ((1, 1), (1, 0), (0, 0), (0, 1)))
        self.assertEqual(len(told), 8)

    def test_all_of_them_rising(self):
        for asked in LYING:
            fewest = len(brute_groups(asked))
            if fewest < 4:
                due = list(brute_all_addresses(asked, fewest))
                self.told(due, all_addresses, asked)
                self.told(len(due), addresses_many, asked, fewest)
                self.told(due[0], first_addresses, asked, fewest)

    def test_each_comes_of_any_other(self):
        for asked in [path_web(3), SQUARE, star_web(4), ring_web(6), CUBE]:
            rows = brute_addresses(asked)
            width = len(rows[0])
            due = sorted(brute_turned(brute_put(rows, order), turned)
                         for order in permutations(range(width)) for turned in all_rising(width))
            self.told(due, all_addresses, asked)

    def test_too_great(self):
        for asked in LYING:
            fewest = len(brute_groups(asked))
            if fewest > 3:
                refusal = self.refused(TooGreat, all_addresses, asked)
                self.assertEqual((refusal.many, refusal.most), (fewest, 3))
        for many in range(5, 9):
            refusal = self.refused(TooGreat, all_addresses, path_web(many))
            self.assertEqual((refusal.many, refusal.most), (many - 1, 3))

    def test_told_lists_are_new(self):
        for asked in [ONE, SQUARE, CUBE]:
            due = repr(all_addresses(asked))
            spoilt = all_addresses(asked)
            spoilt.append("spoilt")
            spoilt.reverse()
            all_addresses(asked).clear()
            self.assertEqual(repr(all_addresses(asked)), due)


class FromPlaceTest(Case):
    """7.4"""

    def test_by_hand(self):
        self.told(((),), from_place, ONE, 0)
        self.told(((1,), (0,)), from_place, path_web(2), 1)
        self.told(((1, 0), (0, 0), (0, 1), (1, 1)), from_place, SQUARE, 1)
        self.told(((1, 1), (0, 1), (0, 0), (1, 0)), from_place, SQUARE, 2)
        self.told([0], weight_table, ONE)
        self.told([0, 1, 2, 1], weight_table, SQUARE)
        self.told([0, 1, 1, 2, 1, 2, 2, 3], weight_table, CUBE)

    def test_noughts_alone_at_the_place_bits_by_groups(self):
        for asked in LYING:
            rows = brute_addresses(asked)
            for place in range(asked[0]):
                due = tuple(tuple(x ^ y for x, y in zip(row, rows[place])) for row in rows)
                self.told(due, from_place, asked, place)
                self.told(True, addresses_good, asked, due)

    def test_from_place_0_it_is_addresses_of(self):
        for asked in LYING:
            self.told(self.ask(addresses_of, asked), from_place, asked, 0)

    def test_weights_are_how_far_from_place_0(self):
        for asked in LYING:
            self.told(brute_far(asked)[0], weight_table, asked)
            self.told([sum(row) for row in brute_addresses(asked)], weight_table, asked)

    def test_no_place(self):
        for asked in [ONE, path_web(2), SQUARE, path_web(8), CUBE]:
            for thing in JUNK + [asked[0]]:
                self.refused(NoPlace, from_place, asked, thing)

    def test_told_lists_are_new(self):
        for asked in [ONE, SQUARE, CUBE]:
            due = repr(weight_table(asked))
            weight_table(asked).append("spoilt")
            spoilt = weight_table(asked)
            spoilt[0] = "spoilt"
            self.assertEqual(repr(weight_table(asked)), due)


class SoTest(Case):
    """7.5"""

    def test_from_one_place_to_another_one_the_bits_at_which_they_differ_are_turned(self):
        for asked in LYING:
            rows = brute_addresses(asked)
            told = [self.ask(from_place, asked, place) for place in range(asked[0])]
            for one in range(asked[0]):
                for other in range(asked[0]):
                    turned = tuple(bit for bit in range(len(rows[0])) if rows[one][bit] != rows[other][bit])
                    self.told(told[other], turned_bits, told[one], turned)
                self.assertIsNotNone(led_bits(told[0], told[one]))

    def test_a_web_of_one_place_has_just_one_without_bits(self):
        self.told(1, addresses_many, ONE, 0)
        self.told(((),), first_addresses, ONE, 0)
        self.told([((),)], all_addresses, ONE)
        self.told(0, fewest_bits, ONE)
        self.told(((),), from_place, ONE, 0)
        for asked in LYING:
            self.assertEqual(self.ask(addresses_many, asked, 0), 1 if asked == ONE else 0)


if __name__ == "__main__":
    unittest.main()
