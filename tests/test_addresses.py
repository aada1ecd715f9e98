"""Stage 2, bits and addresses: 2.1 to 2.5."""

import unittest
from itertools import permutations, product

from cubewebs.addresses import (
    addresses_good, bits_good, first_stretch, lean_bits, led_bits, put_bits, stretch_of, turned_bits, web_by,
)
from cubewebs.errors import NoCube, NoLine, NoPlace
from cubewebs.lying import addresses_of, lies
from samples import (
    CUBE, GREAT, JUNK, LADDER, NO_LOTS, NO_ORDER, NO_RISING, Case, Numbers, all_pairs, all_rising, all_webs,
    brute_addresses, brute_all_addresses, brute_are_addresses, brute_far, brute_groups, brute_joined, brute_lies,
    brute_put, brute_turned, deep, few_lots, full_web, junk_but, path_web, ring_web, star_web, stray_lots,
    stray_rows, web,
)

EVERY = list(all_webs(4)) + GREAT
LYING = [asked for asked in list(all_webs(5)) + GREAT if brute_lies(asked)]

SQUARE = ring_web(4)
PARTS = web(6, (0, 1), (1, 2), (0, 2), (3, 4))
ROUND = ((0, 0), (0, 1), (1, 1), (1, 0))

LOTS = few_lots(2) + stray_lots(150)


def brute_bits_good(asked, thing):
    """Whether it is bits of the web, by its words in the document."""
    if thing.__class__ is not tuple or len(thing) != asked[0]:
        return False
    if any(row.__class__ is not tuple or len(row) != len(thing[0]) for row in thing):
        return False
    return len(thing[0]) <= 12 and all(bit.__class__ is int and bit in (0, 1) for row in thing for bit in row)


def brute_stretches(asked, bits):
    """By two places, how far the bits stretch them."""
    unlike = [[sum(x != y for x, y in zip(one, other)) for other in bits] for one in bits]
    return [[None if far is None else many - far for many, far in zip(*rows)]
            for rows in zip(unlike, brute_far(asked))]


def brute_first(stretches):
    found = [(a, b) for a, b in all_pairs(len(stretches)) if stretches[a][b] != 0]
    return found[0] if found else None


class BitsGoodTest(Case):
    """2.1: what is bits of a web, and what is addresses of it"""

    def test_a_tuple_of_bits_for_each_place_perhaps_none(self):
        numbers = Numbers(1)
        for asked in EVERY:
            for width in range(13):
                self.told(True, bits_good, asked, stray_rows(numbers, asked[0], width))
            self.told(True, bits_good, asked, ((),) * asked[0])
            self.told(True, bits_good, asked, ((0,),) * asked[0])

    def test_twelve_at_most(self):
        for asked in [(1, ()), (8, ()), path_web(8), full_web(3)]:
            self.told(True, bits_good, asked, ((1,) * 12,) * asked[0])
            for width in [13, 14, 40]:
                self.told(False, bits_good, asked, ((1,) * width,) * asked[0])
                self.told(False, bits_good, asked, ((0,) * width,) * asked[0])

    def test_of_just_so_many_places_and_all_of_as_many(self):
        for many in range(1, 9):
            asked = (many, ())
            for wrong in [many - 1, many + 1, many + 2]:
                self.told(False, bits_good, asked, ((0, 1),) * wrong)
                self.told(False, bits_good, asked, ((),) * wrong)
            for at in range(many if many > 1 else 0):
                for row in [(), (0,), (0, 1, 0)]:
                    self.told(False, bits_good, asked, ((0, 1),) * at + (row,) + ((0, 1),) * (many - 1 - at))

    def test_bits_are_whole_numbers_0_and_1(self):
        for bit in [True, False, 2, -1, None, "0", "1", "", (), (1,), [], [1], {}, 10 ** 39, -(10 ** 39), (0, 1)]:
            for call in [bits_good, addresses_good]:
                self.told(False, call, (1, ()), ((bit,),))
                self.told(False, call, path_web(2), ((0, 0), (1, bit)))
                self.told(False, call, path_web(2), ((bit, 0), (bit, 1)))
                self.told(False, call, path_web(3), ((0, 0), (bit, 0), (1, 1)))

    def test_they_are_tuples(self):
        for thing in [[(0,), (1,)], ([0], [1]), ((0,), [1]), ([0], (1,)), "01", ("0", "1"), {0: (0,), 1: (1,)},
                      ({0: 0}, {0: 1}), (0, 1), 1, None, (None, None), ((0,), None), (None, (1,)), (((0,), (1,)),),
                      ((0,), 1), (0, (1,)), ((0,), "1")]:
            self.told(False, bits_good, path_web(2), thing)
            self.told(False, addresses_good, path_web(2), thing)

    def test_whatever_is_handed_in(self):
        found = {True: 0, False: 0}
        for asked in [(1, ()), SQUARE, PARTS, full_web(8)]:
            for thing in JUNK:
                for handed in [thing, (thing,), (thing,) * asked[0], [thing] * asked[0]]:
                    good = brute_bits_good(asked, handed)
                    found[good] += 1
                    self.told(good, bits_good, asked, handed)
                    self.told(good and brute_are_addresses(asked, handed), addresses_good, asked, handed)
            for times in range(1, 8):
                self.told(False, bits_good, asked, deep(((0,),) * asked[0], times))
                self.told(False, addresses_good, asked, deep(((0,),) * asked[0], times))
        self.assertGreater(found[True], 10)

    def test_all_rows_of_few_bits(self):
        for asked in all_webs(4):
            rows = list(product((0, 1), repeat=3 if asked[0] < 4 else 2))
            for bits in product(rows, repeat=asked[0]):
                self.told(True, bits_good, asked, bits)
                self.told(brute_are_addresses(asked, bits), addresses_good, asked, bits)

    def test_addresses_by_hand(self):
        self.told(True, addresses_good, (1, ()), ((),))
        self.told(True, addresses_good, (1, ()), ((1,) * 12,))
        self.told(False, addresses_good, (1, ()), ((1,) * 13,))
        self.told(True, addresses_good, SQUARE, ROUND)
        self.told(False, addresses_good, SQUARE, ((0, 0), (1, 1), (0, 1), (1, 0)))
        self.told(False, addresses_good, path_web(2), ((), ()))
        self.told(False, addresses_good, (2, ()), ((0,), (1,)))
        self.told(False, addresses_good, (2, ()), ((0,), (0,)))
        self.told(False, addresses_good, path_web(4), ROUND)
        self.told(True, addresses_good, path_web(8), tuple((1,) * k + (0,) * (12 - k) for k in range(8)))
        self.told(False, addresses_good, path_web(8), tuple((1,) * k + (0,) * (13 - k) for k in range(8)))

    def test_addresses_of_webs_that_lie_and_of_no_others(self):
        for asked in LYING:
            rows = brute_addresses(asked)
            self.told(True, addresses_good, asked, rows)
            self.told(True, addresses_good, asked, tuple((1,) + row + (0,) for row in rows))
            if asked[0] > 1:
                self.told(False, addresses_good, asked, tuple(row[1:] for row in rows))
                self.told(False, addresses_good, asked, (rows[0],) + rows[:-1])
        for asked in EVERY:
            if not brute_lies(asked):
                for rows in [tuple((1,) * k + (0,) * (7 - k) for k in range(asked[0])), ((),) * asked[0],
                             tuple(tuple(int(k == place) for k in range(8)) for place in range(asked[0]))]:
                    self.told(False, addresses_good, asked, rows)


class StretchTest(Case):
    """2.1: how far bits stretch a web"""

    def test_by_hand(self):
        bits = ((0, 0, 0), (1, 1, 1), (0, 0, 0), (0, 1, 0))
        asked = web(4, (0, 1), (1, 2))
        self.told(2, stretch_of, asked, bits, 0, 1)
        self.told(2, stretch_of, asked, bits, 1, 0)
        self.told(-2, stretch_of, asked, bits, 0, 2)
        self.told(-2, stretch_of, asked, bits, 2, 0)
        self.told(0, stretch_of, asked, bits, 2, 2)
        self.told(None, stretch_of, asked, bits, 0, 3)
        self.told(None, stretch_of, asked, bits, 3, 1)
        self.told(0, stretch_of, asked, bits, 3, 3)
        self.told((0, 1), first_stretch, asked, bits)
        self.told((0, 3), first_stretch, asked, ((0, 0), (0, 1), (1, 1), (0, 1)))
        self.told((0, 2), first_stretch, path_web(3), ((0, 0), (0, 1), (1, 0)))
        self.told((1, 2), first_stretch, path_web(3), ((0, 0, 0), (0, 0, 1), (1, 1, 0)))
        self.told((0, 2), first_stretch, path_web(3), ((0, 0), (0, 1), (0, 0)))
        self.told((0, 3), first_stretch, SQUARE, ((0, 0), (0, 1), (1, 1), (0, 0)))
        self.told((2, 3), first_stretch, SQUARE, ((0, 0, 0), (0, 0, 1), (0, 1, 1), (1, 0, 0)))

    def test_edges(self):
        self.told(0, stretch_of, (1, ()), ((),), 0, 0)
        self.told(0, stretch_of, (1, ()), ((1,) * 12,), 0, 0)
        self.told(None, first_stretch, (1, ()), ((),))
        self.told(-1, stretch_of, path_web(2), ((), ()), 0, 1)
        self.told((0, 1), first_stretch, path_web(2), ((), ()))
        self.told((0, 1), first_stretch, (2, ()), ((), ()))
        self.told((0, 1), first_stretch, (8, ()), ((0,),) * 8)
        self.told(11, stretch_of, path_web(2), ((0,) * 12, (1,) * 12), 1, 0)
        self.told(-7, stretch_of, path_web(8), ((1,) * 12,) * 8, 0, 7)

    def test_over_many_webs_and_bits(self):
        numbers = Numbers(2)
        for asked in EVERY:
            for width in [0, 1, 2, 3, 5, 12]:
                bits = stray_rows(numbers, asked[0], width)
                stretches = brute_stretches(asked, bits)
                for one in range(asked[0]):
                    for other in range(asked[0]):
                        self.told(stretches[one][other], stretch_of, asked, bits, one, other)
                self.told(brute_first(stretches), first_stretch, asked, bits)

    def test_the_first_one_wherever_it_stands(self):
        for asked in LYING:
            rows = brute_addresses(asked)
            self.told(None, first_stretch, asked, rows)
            for place in range(asked[0]):
                for bit in range(len(rows[0])):
                    bent = brute_turned(rows[place:place + 1], (bit,))
                    bits = rows[:place] + bent + rows[place + 1:]
                    self.told(brute_first(brute_stretches(asked, bits)), first_stretch, asked, bits)

    def test_of_few_bits_it_is_none_just_of_addresses(self):
        for asked in all_webs(3):
            for bits in product(list(product((0, 1), repeat=2)), repeat=asked[0]):
                due = brute_are_addresses(asked, bits)
                self.assertEqual(self.ask(first_stretch, asked, bits) is None, due)

    def test_no_cube(self):
        for asked in [(1, ()), SQUARE, PARTS, full_web(8)]:
            wrong = junk_but(((),)) + [((),) * (asked[0] + 1), ((0,) * 13,) * asked[0], [(0,)] * asked[0],
                                       ((0,),) * (asked[0] - 1), ((0,),) * (asked[0] - 1) + ((True,),),
                                       ((0,),) * (asked[0] - 1) + ((2,),), ([0],) * asked[0]]
            for thing in wrong:
                self.refused(NoCube, first_stretch, asked, thing)
                self.refused(NoCube, stretch_of, asked, thing, 0, 0)
        for thing in [((),), ((0,), (1,)), ((0,), (1,), (1, 1), (0,)), ((0,), (1,), (0,), ())]:
            self.refused(NoCube, first_stretch, SQUARE, thing)
            self.refused(NoCube, stretch_of, SQUARE, thing, 0, 1)

    def test_no_place(self):
        for asked in [(1, ()), SQUARE, PARTS, full_web(8)]:
            bits = ((0, 1),) * asked[0]
            for thing in JUNK + [asked[0]]:
                self.refused(NoPlace, stretch_of, asked, bits, thing, 0)
                self.refused(NoPlace, stretch_of, asked, bits, 0, thing)
                self.refused(NoPlace, stretch_of, asked, bits, thing, thing)

    def test_no_cube_goes_ahead_of_no_place(self):
        for thing in [None, (), ((0,),), [(0,), (1,), (0,), (1,)], ((True,), (1,), (0,), (1,)), ((0,) * 13,) * 4]:
            for one, other in [(4, 0), (0, 4), (None, None), (True, False), ("0", [1])]:
                self.refused(NoCube, stretch_of, SQUARE, thing, one, other)
        self.refused(NoPlace, stretch_of, SQUARE, ROUND, True, 0)


class NoLotsTest(Case):
    """2.2 to 2.4: what is no lots of bits"""

    def test_all_refuse_it(self):
        for thing in NO_LOTS:
            self.refused(NoCube, web_by, thing)
            self.refused(NoCube, lean_bits, thing)
            for numbers in [(), (0,), None, [0]]:
                self.refused(NoCube, turned_bits, thing, numbers)
                self.refused(NoCube, put_bits, thing, numbers)
            self.refused(NoCube, led_bits, thing, ROUND)
            self.refused(NoCube, led_bits, ROUND, thing)
            self.refused(NoCube, led_bits, thing, thing)

    def test_within_one_another(self):
        for lots in [((),), ROUND]:
            for times in range(1, 8):
                self.refused(NoCube, web_by, deep(lots, times))
                self.refused(NoCube, lean_bits, deep(lots, times))
                self.refused(NoCube, put_bits, deep(lots, times), (0, 1))
                self.refused(NoCube, turned_bits, deep(lots, times), ())
                self.refused(NoCube, led_bits, lots, deep(lots, times))

    def test_one_to_eight_unlike_tuples(self):
        eight = tuple(product((0, 1), repeat=3))
        for many in range(1, 9):
            self.assertEqual(self.ask(web_by, eight[:many])[0], many)
        for at in range(7):
            self.refused(NoCube, web_by, eight[:7] + (eight[at],))
        self.refused(NoCube, web_by, eight + ((0, 0, 1),))
        self.refused(NoCube, web_by, ())

    def test_twelve_bits_at_most(self):
        self.told((1, ()), web_by, ((1,) * 12,))
        self.told((2, ((0, 1),)), web_by, ((1,) * 12, (1,) * 11 + (0,)))
        self.refused(NoCube, web_by, ((1,) * 13,))
        self.refused(NoCube, web_by, ((1,) * 13, (1,) * 12 + (0,)))

    def test_no_cube_goes_ahead_of_no_line(self):
        for thing in NO_LOTS[:40]:
            for numbers in [None, (9,), (1, 0), (True,), "0"]:
                self.refused(NoCube, turned_bits, thing, numbers)
                self.refused(NoCube, put_bits, thing, numbers)


class WebByTest(Case):
    """2.2"""

    def test_by_hand(self):
        self.told((1, ()), web_by, ((),))
        self.told((1, ()), web_by, ((1, 0, 1),))
        self.told((2, ((0, 1),)), web_by, ((1,), (0,)))
        self.told((2, ()), web_by, ((0, 0), (1, 1)))
        self.told(SQUARE, web_by, ROUND)
        self.told((3, ((0, 2), (1, 2))), web_by, ((0, 0), (1, 1), (0, 1)))
        self.told(CUBE, web_by, tuple(product((0, 1), repeat=3)))
        self.told(star_web(5), web_by, ((0,) * 4, (1, 0, 0, 0), (0, 1, 0, 0), (0, 0, 1, 0), (0, 0, 0, 1)))

    def test_over_many_lots(self):
        for lots in LOTS:
            ties = tuple(pair for pair in all_pairs(len(lots))
                         if sum(x != y for x, y in zip(lots[pair[0]], lots[pair[1]])) == 1)
            self.told((len(lots), ties), web_by, lots)

    def test_lots_need_not_be_addresses_of_it(self):
        self.told(False, addresses_good, web_by(((0, 0), (1, 1))), ((0, 0), (1, 1)))
        asked = self.ask(web_by, ((0, 0, 0), (1, 0, 0), (1, 1, 0), (1, 1, 1), (0, 1, 1)))
        self.told(path_web(5), web_by, ((0, 0, 0), (1, 0, 0), (1, 1, 0), (1, 1, 1), (0, 1, 1)))
        self.told(False, addresses_good, asked, ((0, 0, 0), (1, 0, 0), (1, 1, 0), (1, 1, 1), (0, 1, 1)))

    def test_the_web_by_addresses_is_the_web(self):
        for asked in LYING:
            self.told(asked, web_by, brute_addresses(asked))


class TurnedPutTest(Case):
    """2.3"""

    def test_turned_by_hand(self):
        self.told(((1, 0), (1, 1), (0, 1), (0, 0)), turned_bits, ROUND, (0,))
        self.told(((1, 1), (1, 0), (0, 0), (0, 1)), turned_bits, ROUND, (0, 1))
        self.told(ROUND, turned_bits, ROUND, ())
        self.told(((),), turned_bits, ((),), ())
        self.told(((1, 0, 1),), turned_bits, ((0, 0, 0),), (0, 2))
        self.told(((0,) * 11 + (1,),), turned_bits, ((0,) * 12,), (11,))

    def test_put_by_hand(self):
        lots = ((0, 0, 1), (0, 1, 1))
        self.told(((1, 0, 0), (1, 0, 1)), put_bits, lots, (2, 0, 1))
        self.told(((0, 1, 0), (1, 1, 0)), put_bits, lots, (1, 2, 0))
        self.told(lots, put_bits, lots, (0, 1, 2))
        self.told(((),), put_bits, ((),), ())
        self.told(((1, 0, 0, 0, 0, 0, 0, 0, 0, 0, 0, 0),), put_bits, ((0,) * 11 + (1,),), (11, *range(11)))

    def test_turned_over_many_lots(self):
        numbers = Numbers(3)
        for lots in LOTS:
            width = len(lots[0])
            few = all_rising(width) if width < 5 else [tuple(k for k in range(width) if numbers.below(2))
                                                      for _ in range(8)] + [tuple(range(width))]
            for some in few:
                due = brute_turned(lots, some)
                self.told(due, turned_bits, lots, some)
                self.told(lots, turned_bits, due, some)

    def test_put_over_many_lots(self):
        numbers = Numbers(4)
        for lots in LOTS:
            width = len(lots[0])
            few = list(permutations(range(width))) if width < 4 else [tuple(numbers.mixed(range(width)))
                                                                     for _ in range(8)]
            for order in few:
                due = brute_put(lots, order)
                self.told(due, put_bits, lots, order)
                back = tuple(order.index(number) for number in range(width))
                self.told(lots, put_bits, due, back)

    def test_no_line(self):
        lots = ((0, 0, 1), (0, 1, 1))
        for thing in NO_RISING:
            self.refused(NoLine, turned_bits, lots, thing)
        for thing in NO_ORDER:
            self.refused(NoLine, put_bits, lots, thing)
        for some in all_rising(3):
            self.told(brute_turned(lots, some), turned_bits, lots, some)
        for order in permutations(range(3)):
            self.told(brute_put(lots, order), put_bits, lots, order)

    def test_no_line_without_bits(self):
        for thing in junk_but(()):
            self.refused(NoLine, turned_bits, ((),), thing)
            self.refused(NoLine, put_bits, ((),), thing)

    def test_no_line_by_how_many_bits_there_are(self):
        for width in range(1, 13):
            lots = ((0,) * width, (1,) * width)
            self.told(lots[::-1], turned_bits, lots, tuple(range(width)))
            self.told(lots, put_bits, lots, tuple(reversed(range(width))))
            self.refused(NoLine, turned_bits, lots, (width,))
            self.refused(NoLine, turned_bits, lots, tuple(range(width + 1)))
            self.refused(NoLine, turned_bits, lots, (-1,))
            self.refused(NoLine, put_bits, lots, tuple(range(width + 1)))
            self.refused(NoLine, put_bits, lots, tuple(range(width - 1)))
            self.refused(NoLine, put_bits, lots, tuple(range(1, width + 1)))
            self.refused(NoLine, put_bits, lots, tuple(range(-1, width - 1)))

    def test_what_is_told_is_lots_again(self):
        for lots in stray_lots(60):
            width = len(lots[0])
            told = self.ask(turned_bits, self.ask(put_bits, lots, tuple(reversed(range(width)))), tuple(range(width)))
            self.assertEqual(self.ask(web_by, told), self.ask(web_by, lots))


class LeanTest(Case):
    """2.3: without the bits that are alike in all"""

    def test_by_hand(self):
        self.told(ROUND, lean_bits, ROUND)
        self.told(((0, 0), (0, 1), (1, 1), (1, 0)), lean_bits, ((0, 1, 0), (0, 1, 1), (1, 1, 1), (1, 1, 0)))
        self.told(((0,), (1,)), lean_bits, ((0, 0, 1, 1, 0), (0, 1, 1, 1, 0)))
        self.told(((0, 0), (1, 1)), lean_bits, ((0, 0, 1), (1, 1, 1)))

    def test_lots_of_one_tuple_are_left_without_bits(self):
        for width in range(13):
            self.told(((),), lean_bits, ((0,) * width,))
            self.told(((),), lean_bits, ((1,) * width,))
            self.told(((),), lean_bits, (((0, 1) * 6)[:width],))

    def test_over_many_lots(self):
        for lots in LOTS:
            kept = [k for k in range(len(lots[0])) if any(row[k] != lots[0][k] for row in lots)]
            due = brute_put(lots, kept)
            self.told(due, lean_bits, lots)
            self.told(due, lean_bits, due)
            if len(lots[0]) < 11:
                self.told(due, lean_bits, tuple((1,) + row + (0,) for row in lots))


class LedTest(Case):
    """2.4"""

    def brute(self, one, other):
        """The first one, by trying all."""
        width = len(one[0])
        if len(one) == len(other) and width == len(other[0]):
            for order in permutations(range(width)):
                put = brute_put(one, order)
                for turned in all_rising(width):
                    if brute_turned(put, turned) == other:
                        return (order, turned)
        return None

    def test_by_hand(self):
        self.told(((), ()), led_bits, ((),), ((),))
        self.told(((0,), ()), led_bits, ((1,),), ((1,),))
        self.told(((0,), (0,)), led_bits, ((0,),), ((1,),))
        self.told(((0, 1), ()), led_bits, ROUND, ROUND)
        self.told(((1, 0), ()), led_bits, ROUND, ((0, 0), (1, 0), (1, 1), (0, 1)))
        self.told(((1, 0), (1,)), led_bits, ROUND, ((0, 1), (1, 1), (1, 0), (0, 0)))
        self.told(None, led_bits, ROUND, ((0, 0), (1, 1), (0, 1), (1, 0)))
        # Turned is told by the places in the second lots: bit 2 of the first one stands at 0.
        self.told(((2, 0, 1), (0,)), led_bits, ((0, 0, 0), (0, 1, 1), (1, 1, 0)), ((1, 0, 0), (0, 0, 1), (1, 1, 1)))

    def test_of_bits_alike_the_least_ones_stand_ahead(self):
        self.told(((0, 1, 2), ()), led_bits, ((0, 0, 0),), ((0, 0, 0),))
        self.told(((0, 1, 2), (1,)), led_bits, ((0, 1, 0),), ((0, 0, 0),))
        self.told(((0, 2, 1), ()), led_bits, ((0, 1, 0), (1, 1, 1)), ((0, 0, 1), (1, 1, 1)))
        self.told(((1, 0, 2), (2,)), led_bits, ((0, 1, 0), (1, 1, 1)), ((1, 0, 1), (1, 1, 0)))

    def test_all_of_few_bits(self):
        every = few_lots(2)
        for one in every:
            for other in every:
                self.told(self.brute(one, other), led_bits, one, other)

    def test_some_of_more_bits(self):
        numbers = Numbers(5)
        found = {True: 0, False: 0}
        for _ in range(250):
            width = 3 + numbers.below(2)
            rows = sorted(set(stray_rows(numbers, 1 + numbers.below(6), width)))
            one = tuple(numbers.mixed(rows))
            other = brute_turned(brute_put(one, numbers.mixed(range(width))),
                                 [k for k in range(width) if numbers.below(2)])
            if numbers.below(3) == 0:
                other = tuple(numbers.mixed(other))
            due = self.brute(one, other)
            found[due is None] += 1
            self.told(due, led_bits, one, other)
        self.assertGreater(min(found.values()), 20)

    def test_other_numbers_of_bits_or_tuples(self):
        self.told(None, led_bits, ((),), ((0,),))
        self.told(None, led_bits, ((0,),), ((),))
        self.told(None, led_bits, ((0,),), ((0,), (1,)))
        self.told(None, led_bits, ((0,), (1,)), ((0,),))
        self.told(None, led_bits, ((0,), (1,)), ((0, 0), (1, 0)))
        self.told(None, led_bits, ((0, 0), (1, 0)), ((0,), (1,)))
        self.told(None, led_bits, ROUND, ROUND[:3])
        self.told(None, led_bits, ((0,) * 12,), ((0,) * 11,))

    def test_in_good_time_of_eight_tuples_of_twelve_bits(self):
        numbers = Numbers(6)
        three = tuple(product((0, 1), repeat=3))
        alike = tuple((row[0],) * 10 + row[1:] for row in three)
        turned = tuple(range(0, 12, 2))
        for one in [alike, tuple(stray + row for stray, row in zip(stray_rows(numbers, 8, 9), three)),
                    tuple((0,) * 9 + row for row in three), tuple(row * 4 for row in three)]:
            other = brute_turned(brute_put(one, tuple(numbers.mixed(range(12)))), turned)
            order, turns = self.soon(led_bits, one, other)
            self.assertEqual(brute_turned(brute_put(one, order), turns), other)
            self.assertEqual((tuple(sorted(order)), turns), (tuple(range(12)), tuple(sorted(set(turns)))))
            # One bit has none like it: all others can be put in many ways, and all are in vain.
            bent = [tuple(row[:k] + (int(at in (0, 3, 5)),) + row[k + 1:] for at, row in enumerate(other))
                    for k in reversed(range(12))]
            wrong = next(lots for lots in bent if len(set(lots)) == 8)
            self.assertIsNone(self.soon(led_bits, one, wrong))
        self.assertEqual(self.soon(led_bits, alike, alike), (tuple(range(12)), ()))

    def test_of_what_goes_first_both_are_no_cube(self):
        self.refused(NoCube, led_bits, None, ((),))
        self.refused(NoCube, led_bits, ((),), None)
        self.refused(NoCube, led_bits, ((0,),), ((True,),))
        # Also where they have not as many tuples or bits.
        self.refused(NoCube, led_bits, ((0,), (1,)), ((0,) * 13,))
        self.refused(NoCube, led_bits, ((0,), (1,)), ((0,),) * 3)


class SoTest(Case):
    """2.5"""

    def test_a_web_has_addresses_where_nothing_is_stretched(self):
        for asked in EVERY:
            if brute_lies(asked):
                self.told(None, first_stretch, asked, self.ask(addresses_of, asked))
            for width in [asked[0] - 1, 3]:
                bits = stray_rows(Numbers(asked[0] + width), asked[0], width)
                if self.ask(first_stretch, asked, bits) is None:
                    self.told(True, addresses_good, asked, bits)
                    self.told(True, lies, asked)
        for asked in all_webs(3):
            found = [bits for bits in product(list(product((0, 1), repeat=2)), repeat=asked[0])
                     if self.ask(first_stretch, asked, bits) is None]
            self.assertEqual(found != [], brute_lies(asked))

    def test_turned_or_put_in_another_order_addresses_are_addresses(self):
        numbers = Numbers(7)
        for asked in LYING:
            rows = brute_addresses(asked)
            width = len(rows[0])
            for more in [0, 3]:
                spare = tuple(row + (1, 0, 1)[:more] for row in rows)
                order = tuple(numbers.mixed(range(width + more)))
                turned = tuple(k for k in range(width + more) if numbers.below(2))
                self.told(True, addresses_good, asked, self.ask(put_bits, spare, order))
                self.told(True, addresses_good, asked, self.ask(turned_bits, spare, turned))
                both = self.ask(turned_bits, self.ask(put_bits, spare, order), turned)
                self.told(True, addresses_good, asked, both)
                self.told(asked, web_by, both)

    def test_of_two_addresses_with_as_few_bits_as_can_be_one_is_led_to_the_other(self):
        for asked in LYING:
            rows = self.ask(addresses_of, asked)
            width = len(brute_groups(asked))
            if width > 3:
                others = [brute_turned(rows[:], (0, 2)), brute_put(rows, tuple(reversed(range(width))))]
            else:
                others = list(brute_all_addresses(asked, width))
            for other in others:
                for one in [rows, others[-1]]:
                    order, turned = self.ask(led_bits, one, other)
                    self.assertEqual(self.ask(turned_bits, self.ask(put_bits, one, order), turned), other)

    def test_the_samples_hold_what_is_asked_of_them(self):
        self.assertTrue(all(brute_joined(asked) for asked in LYING))
        self.assertIn(LADDER, LYING)
        self.assertGreater(len([lots for lots in LOTS if len(lots) == 8]), 3)
        self.assertGreater(len([lots for lots in LOTS if len(lots[0]) == 12]), 3)


if __name__ == "__main__":
    unittest.main()
