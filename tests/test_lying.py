"""Stage 5, which webs lie in a cube: 5.1 to 5.4."""

import unittest
from itertools import product

from cubewebs.errors import NoCube
from cubewebs.lying import addresses_of, lies, paper_good, paper_of
from cubewebs.together import first_break, groups_of, odd_ring
from cubewebs.webs import is_joined, renamed
from samples import (
    CUBE, GREAT, JUNK, LADDER, Case, all_pairs, all_webs, brute_addresses, brute_are_addresses, brute_breaks,
    brute_far, brute_fits, brute_groups, brute_is_ring, brute_joined, brute_lies, brute_rings, brute_tied, deep,
    full_web, path_web, plus, ring_web, some_names, star_web, two_sided_web, web,
)

EVERY = list(all_webs(5)) + GREAT
LYING = [asked for asked in EVERY if brute_lies(asked)]
OTHERS = [asked for asked in EVERY if not brute_lies(asked)]

SQUARE = ring_web(4)
PARTS = web(6, (0, 1), (1, 2), (0, 2), (3, 4))


def brute_paper_good(asked, paper):
    """Whether a tuple that begins with a right word, and has things of right kinds, is a paper."""
    word, *rest = paper
    if word == "lies":
        return brute_are_addresses(asked, rest[0])
    if word == "apart":
        return brute_far(asked)[rest[0]][rest[1]] is None
    if word == "odd":
        return brute_is_ring(asked, rest[0])
    return brute_joined(asked) and tuple(rest) in brute_breaks(asked)


class AddressesTest(Case):
    """5.1, as far as papers tell of it."""

    def good(self, asked, addresses):
        self.told(True, paper_good, asked, ("lies", addresses))

    def wrong(self, asked, addresses):
        self.told(False, paper_good, asked, ("lies", addresses))

    def test_by_hand(self):
        self.good(SQUARE, ((0, 0), (0, 1), (1, 1), (1, 0)))
        self.good(SQUARE, ((1, 0), (1, 1), (0, 1), (0, 0)))
        self.good(SQUARE, ((1, 0, 1), (1, 1, 1), (0, 1, 1), (0, 0, 1)))
        self.good(path_web(3), ((0, 0), (1, 0), (1, 1)))
        self.wrong(SQUARE, ((0, 0), (1, 1), (0, 1), (1, 0)))
        self.wrong(path_web(3), ((0, 0), (1, 0), (0, 0)))
        self.wrong(path_web(3), ((0,), (1,), (0,)))
        self.wrong(path_web(2), ((0,), (0,)))
        self.wrong(path_web(2), ((0, 0), (1, 1)))
        self.wrong(full_web(3), ((0, 0), (0, 1), (1, 0)))
        # Tied places differ at one bit and others at more, but one is nearer than by ties.
        self.wrong(path_web(4), ((0, 0), (0, 1), (1, 1), (1, 0)))
        self.wrong(web(4, (0, 1), (1, 2), (2, 3)), ((0, 0, 0), (1, 0, 0), (1, 1, 0), (1, 1, 0)))

    def test_no_bits_and_one_place(self):
        one = (1, ())
        self.good(one, ((),))
        for bits in product((0, 1), repeat=3):
            self.good(one, (bits,))
        self.good(one, ((1,) * 12,))
        self.wrong(one, ((1,) * 13,))
        self.wrong(one, ((0,) * 13,))
        self.wrong(one, ())
        self.wrong(one, ((), ()))
        self.wrong(path_web(2), ((), ()))
        self.wrong((2, ()), ((), ()))

    def test_twelve_bits_at_most(self):
        for many in range(2, 9):
            rows = tuple((1,) * k + (0,) * (12 - k) for k in range(many))
            self.good(path_web(many), rows)
            self.wrong(path_web(many), tuple(row + (0,) for row in rows))
            self.wrong(path_web(many), tuple((1,) + row for row in rows))

    def test_all_of_as_many_bits(self):
        self.good(path_web(3), ((0, 0, 1), (0, 1, 1), (1, 1, 1)))
        self.wrong(path_web(2), ((0,), (1, 0)))
        self.wrong(path_web(2), ((1, 0), (0,)))
        self.wrong(path_web(2), ((), (1,)))
        self.wrong(path_web(2), ((1,), ()))
        self.wrong(path_web(3), ((0, 0), (1, 0), (1, 1, 0)))
        self.wrong(path_web(3), ((0, 0), (1, 0, 0), (1, 1)))
        self.wrong(path_web(3), ((0, 0, 0), (1, 0), (1, 1)))

    def test_a_tuple_for_each_place(self):
        self.wrong(path_web(3), ((0, 0), (1, 0)))
        self.wrong(path_web(3), ((0, 0), (1, 0), (1, 1), (1, 1)))
        self.wrong(path_web(3), ((0, 0), (1, 0), (1, 1), ()))
        self.wrong(path_web(2), ())

    def test_bits_are_whole_numbers_0_and_1(self):
        for bit in [True, False, 2, -1, None, "0", "1", "", (), (1,), [], [1], {}, 10 ** 39, (0, 1)]:
            self.wrong(path_web(2), ((0,), (bit,)))
            self.wrong(path_web(2), ((bit,), (0,)))
            self.wrong(path_web(2), ((1, 0), (1, bit)))
            self.wrong(path_web(2), ((bit, 0), (bit, 1)))
            self.wrong((1, ()), ((bit,),))
            self.wrong((1, ()), ((0, bit),))

    def test_they_are_tuples(self):
        for thing in [[(0,), (1,)], ([0], [1]), ((0,), [1]), ([0], (1,)), "01", ("0", "1"), {0: (0,), 1: (1,)},
                      ({0: 0}, {0: 1}), (0, 1), 1, None, (None, None), ((0,), None), (None, (1,)), (((0,), (1,)),)]:
            self.wrong(path_web(2), thing)

    def test_all_rows_of_few_bits(self):
        for asked in all_webs(4):
            rows = list(product((0, 1), repeat=3 if asked[0] < 4 else 2))
            for addresses in product(rows, repeat=asked[0]):
                self.told(brute_are_addresses(asked, addresses), paper_good, asked, ("lies", addresses))

    def test_turned_and_put_in_another_order_they_are_addresses(self):
        for asked in LYING[::5]:
            rows = brute_addresses(asked)
            self.good(asked, tuple(tuple(1 - bit for bit in row) for row in rows))
            self.good(asked, tuple(row[::-1] for row in rows))
            self.good(asked, tuple((1,) + row + (0,) for row in rows))


class PaperGoodTest(Case):
    """5.2"""

    def test_apart(self):
        for asked in list(all_webs(4)) + [PARTS]:
            far = brute_far(asked)
            for a in range(-1, asked[0] + 1):
                for b in range(-1, asked[0] + 1):
                    inside = 0 <= a < asked[0] and 0 <= b < asked[0]
                    self.told(inside and far[a][b] is None, paper_good, asked, ("apart", a, b))

    def test_apart_in_either_order(self):
        for a, b in [(0, 3), (3, 0), (5, 4), (4, 5), (2, 5)]:
            self.told(True, paper_good, PARTS, ("apart", a, b))
        for a, b in [(0, 0), (0, 1), (4, 3), (5, 5), (0, 6), (0, -1), (-1, 0), (6, 0), (True, 3), (3, True),
                     (False, 5), (5, False), ("0", 3), (0, "3"), (None, None), (0, None), (0, (3,)), ([0], 3)]:
            self.told(False, paper_good, PARTS, ("apart", a, b))
        for thing in [("apart", 0), ("apart", 0, 3, 5), ("apart", (0, 3)), ("apart", [0, 3]), ("apart",),
                      ["apart", 0, 3], ("Apart", 0, 3), (0, 3), (0, 3, "apart"), (("apart", 0, 3),), ("apart", "03")]:
            self.told(False, paper_good, PARTS, thing)

    def test_odd_of_webs_joined_or_not(self):
        self.told(True, paper_good, PARTS, ("odd", (0, 1, 2)))
        self.told(True, paper_good, PARTS, ("odd", (2, 1, 0)))
        self.told(False, paper_good, PARTS, ("odd", (0, 1, 3)))
        self.told(True, paper_good, web(8, *ring_web(7)[1]), ("odd", (0, 1, 2, 3, 4, 5, 6)))
        self.told(True, paper_good, web(6, *ring_web(5)[1]), ("odd", (1, 2, 3, 4, 0)))
        for asked in [asked for asked in EVERY if asked[0] != 5][::3] + [full_web(5), ring_web(5)]:
            for size in [3, 5, 7]:
                for ring in brute_rings(asked, size)[:30]:
                    self.told(True, paper_good, asked, ("odd", ring))

    def test_what_is_no_odd_ring(self):
        asked = full_web(8)
        for ring in [(0, 1), (0, 1, 2, 3), (0, 1, 2, 3, 4, 5), (0, 1, 2, 3, 4, 5, 6, 7), (0,), (), (0, 1, 0), (0, 0, 1),
                     (0, 1, 2, 3, 1), [0, 1, 2], "012", (0, True, 2), (False, 1, 2), (0, 1, 8), (0, 1, -1), (-1, 0, 1),
                     (0, 1, None), (0, 1, "2"), ((0, 1, 2),), (0, 1, (2,)), (0, [1], 2), ({}, [], 0),
                     {0: 1, 1: 2, 2: 0}, (0, 1, 2, 3, 4, 5, 6, 7, 0), 3, None]:
            self.told(False, paper_good, asked, ("odd", ring))
        self.told(False, paper_good, path_web(3), ("odd", (0, 1, 2)))
        self.told(False, paper_good, SQUARE, ("odd", (0, 1, 2, 3)))
        for thing in [("odd", 0, 1, 2), ("odd",), ("odd", (0, 1, 2), (0, 1, 2)), ["odd", (0, 1, 2)], ("ODD", (0, 1, 2)),
                      ((0, 1, 2), "odd"), (("odd", (0, 1, 2)),), ("odd", (0, 1, 2), None), (0, 1, 2)]:
            self.told(False, paper_good, asked, thing)

    def test_break_of_joined_webs(self):
        for asked in [two_sided_web(2, 3), full_web(4), SQUARE, path_web(4), plus(ring_web(5), (0, 2))]:
            breaks = brute_breaks(asked)
            for thing in product(range(-1, len(asked[1]) + 1), repeat=3):
                self.told(thing in breaks, paper_good, asked, ("break", *thing))
        for asked in OTHERS[::9]:
            if brute_joined(asked):
                for thing in brute_breaks(asked)[::7]:
                    self.told(True, paper_good, asked, ("break", *thing))

    def test_what_is_no_break(self):
        asked = full_web(4)
        self.told(True, paper_good, asked, ("break", 0, 1, 5))
        for thing in [("break", False, 1, 5), ("break", 0, True, 5), ("break", 0, 1, -1), ("break", 0, -5, 5),
                      ("break", -6, 1, 5), ("break", 0, 1), ("break",), ("break", 0, 1, 5, 5), ("break", (0, 1, 5)),
                      ("break", 0, 1, "5"), ["break", 0, 1, 5], ("break", 0, 1, 6), ("break", 0, 1, None),
                      ("break", [0], 1, 5), ("break", 5, 5, 0), (0, 1, 5), ("Break", 0, 1, 5), ("break", 0, 1, (5,))]:
            self.told(False, paper_good, asked, thing)

    def test_break_of_webs_that_are_not_joined_is_none(self):
        for asked in [web(5, *full_web(4)[1]), web(6, *two_sided_web(2, 3)[1]), PARTS, (2, ()), (8, ())]:
            every = range(min(len(asked[1]), 6) + 1)
            for thing in product(every, repeat=3):
                self.told(False, paper_good, asked, ("break", *thing))

    def test_whatever_is_handed_in(self):
        for asked in [(1, ()), PARTS, full_web(4), SQUARE, two_sided_web(2, 3)]:
            for thing in JUNK:
                self.told(False, paper_good, asked, thing)
                self.told(False, paper_good, asked, (thing,))
                if thing not in ["lies", "apart", "odd", "break"]:
                    self.told(False, paper_good, asked, (thing, (0, 1, 2)))
                    self.told(False, paper_good, asked, (thing, 0, 3))
                    self.told(False, paper_good, asked, (thing, 0, 1, 5))
                for word in ["lies", "apart", "odd", "break", "even", ""]:
                    if asked != (1, ()) or word != "lies" or thing not in [((),), (0,)]:
                        self.told(False, paper_good, asked, (word, thing))
                    self.told(False, paper_good, asked, (word, thing, 3))
                    self.told(False, paper_good, asked, (word, 0, thing))
                    self.told(False, paper_good, asked, (word, 0, 1, thing))
                    self.told(False, paper_good, asked, (word, thing, 1, 5))
            for times in range(1, 8):
                self.told(False, paper_good, asked, deep(("lies", ((),)), times))

    def test_the_word_is_just_so(self):
        addresses = ((0, 0), (0, 1), (1, 1), (1, 0))
        self.told(True, paper_good, SQUARE, ("lies", addresses))
        for word in ["Lies", "lies ", "lie", "odd", "apart", "break", "", None, 0, ("lies",), ["lies"], {"lies": 0}]:
            self.told(False, paper_good, SQUARE, (word, addresses))
        for thing in [("lies",), ("lies", addresses, addresses), ["lies", addresses], ("lies", *addresses),
                      (addresses, "lies"), addresses, (addresses,), {"lies": addresses}, "lies", ("lies", (addresses,)),
                      ("lies", addresses, None), ("lies", list(addresses))]:
            self.told(False, paper_good, SQUARE, thing)

    def test_no_web_has_a_paper_of_the_first_kind_and_one_of_another_kind(self):
        for asked in list(all_webs(4)) + GREAT[::4]:
            many, ties = asked
            others = [("apart", a, b) for a, b in all_pairs(many)]
            others += [("odd", ring) for size in [3, 5, 7] for ring in brute_rings(asked, size)[:9]]
            others += [("break", *thing) for thing in product(range(len(ties))[:12], repeat=3)]
            if many < 5:
                # Three bits are enough for four places, and place 0 may have noughts alone.
                rows = list(product((0, 1), repeat=3))
                firsts = [("lies", told) for told in product(rows[:1], *[rows] * (many - 1))]
            else:
                firsts = [("lies", brute_addresses(asked))] if brute_joined(asked) else []
            shown = any(self.ask(paper_good, asked, paper) for paper in others)
            lying = any(self.ask(paper_good, asked, paper) for paper in firsts)
            self.assertFalse(shown and lying, asked)
            self.assertEqual(lying, brute_lies(asked), asked)


class PaperOfTest(Case):
    """5.3"""

    def test_there_always_is_a_paper(self):
        kinds = {}
        for asked in EVERY:
            paper = self.ask(paper_of, asked)
            self.assertIs(paper.__class__, tuple)
            self.assertTrue(brute_paper_good(asked, paper), (asked, paper))
            self.told(True, paper_good, asked, paper)
            kinds[paper[0]] = True
        self.assertEqual(sorted(kinds), ["apart", "break", "lies", "odd"])

    def test_papers_have_numbers_alone(self):
        for asked in EVERY:
            word, *rest = self.ask(paper_of, asked)
            if word == "lies":
                numbers = [bit for row in rest[0] for bit in row]
                self.assertTrue(all(row.__class__ is tuple for row in rest[0]))
            elif word == "odd":
                numbers = list(rest[0])
                self.assertIs(rest[0].__class__, tuple)
            else:
                numbers = rest
                self.assertEqual(len(rest), 2 if word == "apart" else 3)
            self.assertTrue(all(number.__class__ is int for number in numbers))

    def test_paper_of_a_web_that_lies_is_the_first_kind(self):
        for asked in LYING:
            self.assertEqual(self.ask(paper_of, asked)[0], "lies")
        for asked in OTHERS:
            self.assertNotEqual(self.ask(paper_of, asked)[0], "lies")

    def test_lies(self):
        for asked in LYING:
            self.told(True, lies, asked)
        for asked in OTHERS:
            self.told(False, lies, asked)

    def test_lies_by_hand(self):
        for asked in [(1, ()), path_web(8), star_web(8), SQUARE, ring_web(6), ring_web(8), CUBE, LADDER]:
            self.told(True, lies, asked)
        for asked in [(2, ()), (8, ()), ring_web(3), ring_web(5), ring_web(7), full_web(8), two_sided_web(2, 3),
                      two_sided_web(4, 4), PARTS, web(8, *ring_web(6)[1]), plus(CUBE, (0, 7)), web(4, (0, 1), (2, 3)),
                      plus(ring_web(8), (0, 3), (1, 4))]:
            self.told(False, lies, asked)

    def test_addresses_of(self):
        for asked in LYING:
            due = brute_addresses(asked)
            self.assertTrue(brute_are_addresses(asked, due))
            self.told(due, addresses_of, asked)

    def test_addresses_of_by_hand(self):
        self.told(((),), addresses_of, (1, ()))
        self.told(((0,), (1,)), addresses_of, path_web(2))
        self.told(((0, 0), (1, 0), (1, 1), (0, 1)), addresses_of, SQUARE)
        self.told(((0, 0, 0), (1, 0, 0), (1, 1, 0), (1, 1, 1)), addresses_of, path_web(4))
        self.told(((0, 0, 0), (1, 0, 0), (0, 1, 0), (0, 0, 1)), addresses_of, star_web(4))
        # Place 0 stands within the way 1-0-2.
        self.told(((0, 0), (1, 0), (0, 1)), addresses_of, web(3, (0, 1), (0, 2)))
        # 0 at the end of the way 0-2-1: tie (0, 2) is ahead of (1, 2).
        self.told(((0, 0), (1, 1), (1, 0)), addresses_of, web(3, (0, 2), (1, 2)))
        # 0 in the midst of the way 3-1-0-2: ties (0, 1), (0, 2), (1, 3).
        self.told(((0, 0, 0), (1, 0, 0), (0, 1, 0), (1, 0, 1)), addresses_of, web(4, (0, 1), (0, 2), (1, 3)))

    def test_with_as_few_bits_as_can_be(self):
        for asked in LYING:
            addresses = self.ask(addresses_of, asked)
            bits = len(addresses[0])
            self.assertEqual(bits, len(brute_groups(asked)))
            self.assertEqual(addresses[0], (0,) * bits)
            self.assertTrue(brute_fits(asked, bits))
            self.assertFalse(bits > 0 and brute_fits(asked, bits - 1), asked)

    def test_no_cube(self):
        for asked in OTHERS:
            self.refused(NoCube, addresses_of, asked)


class SoTest(Case):
    """5.4"""

    def test_just_where_it_is_joined_without_odd_rings_and_its_ties_lead_on(self):
        for asked in EVERY:
            due = is_joined(asked) and odd_ring(asked) is None and first_break(asked) is None
            self.told(due, lies, asked)
            self.told(brute_lies(asked), lies, asked)

    def test_two_tied_places_differ_at_just_the_bit_of_their_ties_group(self):
        for asked in LYING:
            rows = self.ask(addresses_of, asked)
            groups = self.ask(groups_of, asked)
            for number, (a, b) in enumerate(asked[1]):
                unlike = [bit for bit in range(len(rows[a])) if rows[a][bit] != rows[b][bit]]
                self.assertEqual(unlike, [at for at, group in enumerate(groups) if number in group])
            for a, b in all_pairs(asked[0]):
                unlike = sum(x != y for x, y in zip(rows[a], rows[b]))
                self.assertEqual(unlike == 1, brute_tied(asked, a, b))

    def test_a_web_renamed_lies_in_a_cube_where_it_did(self):
        for asked in LYING + OTHERS[::3]:
            due = brute_lies(asked)
            for names in some_names(asked[0]):
                new = renamed(asked, names)
                self.told(due, lies, new)
                if due:
                    self.told(True, paper_good, new, ("lies", self.ask(addresses_of, new)))

    def test_what_shows_that_a_web_does_not_lie(self):
        for asked in OTHERS:
            self.assertNotEqual(self.ask(paper_of, asked)[0], "lies")
            self.assertFalse(brute_fits(asked, asked[0] - 1))


if __name__ == "__main__":
    unittest.main()
