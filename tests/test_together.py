"""Stage 3, ties that go together: 3.1 to 3.5."""

import unittest
from itertools import product

from cubewebs.errors import Apart, NoTie
from cubewebs.together import (
    break_good, first_break, groups_of, odd_good, odd_ring, sides_of, together, with_of,
)
from samples import (
    CUBE, GREAT, JUNK, LADDER, Case, all_pairs, all_webs, brute_breaks, brute_groups, brute_is_ring, brute_joined,
    brute_rings, brute_table, brute_tied, brute_two_sided, deep, full_web, path_web, plus, ring_web, some_names,
    star_web, two_sided_web, web,
)

FEW = [asked for asked in all_webs(5) if brute_joined(asked)]
JOINED = FEW + [asked for asked in GREAT if brute_joined(asked)]
LOOSE = [asked for asked in list(all_webs(4)) + GREAT if not brute_joined(asked)]

# Its ties are numbered (0, 1), (0, 3), (1, 2), (2, 3).
SQUARE = ring_web(4)


def renumbered(asked, names):
    """The renamed web, and where the number of each old tie went."""
    ties = [tuple(sorted((names[a], names[b]))) for a, b in asked[1]]
    new = (asked[0], tuple(sorted(ties)))
    return new, [new[1].index(tie) for tie in ties]


class ApartTest(Case):
    """3.1: webs that are not joined are refused ahead of all else."""

    def test_webs_that_are_not_joined(self):
        for asked in LOOSE:
            self.refused(Apart, together, asked, 0, 0)
            self.refused(Apart, with_of, asked, 0)
            self.refused(Apart, groups_of, asked)
            self.refused(Apart, break_good, asked, (0, 1, 2))
            self.refused(Apart, first_break, asked)
            self.refused(Apart, odd_good, asked, (0, 1, 2))
            self.refused(Apart, odd_ring, asked)
            self.refused(Apart, sides_of, asked)

    def test_ahead_of_no_tie_and_of_whatever_is_handed_in(self):
        for asked in [(2, ()), web(4, (0, 1), (0, 2), (1, 2)), web(8, *ring_web(7)[1])]:
            for thing in JUNK:
                self.refused(Apart, together, asked, thing, 0)
                self.refused(Apart, together, asked, 0, thing)
                self.refused(Apart, together, asked, thing, thing)
                self.refused(Apart, with_of, asked, thing)
                self.refused(Apart, break_good, asked, thing)
                self.refused(Apart, odd_good, asked, thing)

    def test_a_web_of_one_place_is_joined(self):
        one = (1, ())
        self.refused(NoTie, together, one, 0, 0)
        self.refused(NoTie, with_of, one, 0)
        self.told([], groups_of, one)
        self.told(False, break_good, one, (0, 0, 0))
        self.told(None, first_break, one)
        self.told(False, odd_good, one, (0, 0, 0))
        self.told(None, odd_ring, one)
        self.told((0,), sides_of, one)


class TogetherTest(Case):
    """3.1 and 3.2"""

    def check(self, asked):
        table = brute_table(asked)
        every = range(len(table))
        for one in every:
            self.told([other for other in every if table[one][other]], with_of, asked, one)
            for other in every:
                self.told(table[one][other], together, asked, one, other)
        groups = brute_groups(asked)
        self.told(groups, groups_of, asked)
        self.assertEqual(sorted(number for group in groups for number in group), list(every))

    def test_all_of_few_places(self):
        for asked in FEW:
            if asked[0] < 5 or len(asked[1]) < 7:
                self.check(asked)

    def test_some_of_up_to_eight(self):
        for asked in JOINED[len(FEW):]:
            self.check(asked)

    def test_groups_of_all_of_five_places(self):
        for asked in FEW:
            self.told(brute_groups(asked), groups_of, asked)

    def test_told_by_hand(self):
        self.told(True, together, SQUARE, 0, 3)
        self.told(True, together, SQUARE, 2, 1)
        self.told(False, together, SQUARE, 0, 1)
        self.told(False, together, SQUARE, 3, 2)
        self.told([0, 3], with_of, SQUARE, 3)
        self.told([(0, 3), (1, 2)], groups_of, SQUARE)
        self.told([(0,), (1,), (2,)], groups_of, path_web(4))
        self.told([(0, 1, 2)], groups_of, full_web(3))
        self.told([0, 1, 2], with_of, full_web(3), 1)
        self.told([(0, 4), (1, 3), (2, 5)], groups_of, ring_web(6))
        self.told([(0, 3), (1, 2), (4,)], groups_of, plus(web(5, *SQUARE[1]), (3, 4)))
        self.told([(0, 1, 2, 3, 4)], groups_of, ring_web(5))

    def test_each_tie_goes_with_itself_and_of_two_it_is_the_same(self):
        for asked in JOINED[::7]:
            for one in range(len(asked[1])):
                self.told(True, together, asked, one, one)
                for other in range(len(asked[1])):
                    self.assertIs(self.ask(together, asked, one, other), self.ask(together, asked, other, one))

    def test_groups_go_from_tie_to_tie(self):
        # Ties that do not go together themselves may be of one group.
        asked = two_sided_web(2, 3)
        self.told([(0, 1, 2, 3, 4, 5)], groups_of, asked)
        self.told([0, 4, 5], with_of, asked, 0)
        self.told(False, together, asked, 0, 1)

    def test_no_tie(self):
        for asked in [(1, ()), path_web(2), SQUARE, full_web(8)]:
            for thing in JUNK + [len(asked[1]), (0, 1)]:
                self.refused(NoTie, with_of, asked, thing)
                self.refused(NoTie, together, asked, thing, 0)
                self.refused(NoTie, together, asked, 0, thing)
                self.refused(NoTie, together, asked, thing, thing)
        for number in range(28):
            self.told(True, together, full_web(8), number, number)

    def test_told_lists_are_new(self):
        for asked in [SQUARE, CUBE, full_web(5)]:
            due, groups = repr(with_of(asked, 0)), repr(groups_of(asked))
            with_of(asked, 0).clear()
            with_of(asked, 0).append(99)
            spoilt = groups_of(asked)
            spoilt.append("spoilt")
            spoilt.reverse()
            groups_of(asked).clear()
            self.assertEqual(repr(with_of(asked, 0)), due)
            self.assertEqual(repr(groups_of(asked)), groups)


class BreakTest(Case):
    """3.3"""

    def test_first_breaks_of_all_of_few_places_and_some_of_up_to_eight(self):
        with_breaks = 0
        for asked in JOINED:
            breaks = brute_breaks(asked)
            with_breaks += len(breaks) > 0
            self.told(breaks[0] if breaks else None, first_break, asked)
        self.assertGreater(with_breaks, 100)
        self.assertGreater(len(JOINED) - with_breaks, 100)

    def test_all_tuples_of_numbers(self):
        for asked in [SQUARE, path_web(4), full_web(3), full_web(4), two_sided_web(2, 3), ring_web(5),
                      plus(ring_web(5), (0, 2)), CUBE]:
            breaks = brute_breaks(asked)
            for thing in product(range(-1, min(len(asked[1]), 9) + 1), repeat=3):
                self.told(thing in breaks, break_good, asked, thing)

    def test_all_breaks_are_breaks(self):
        for asked in JOINED[len(FEW):]:
            for thing in brute_breaks(asked)[::5]:
                self.told(True, break_good, asked, thing)

    def test_told_by_hand(self):
        self.told((0, 4, 2), first_break, two_sided_web(2, 3))
        self.told((0, 1, 5), first_break, full_web(4))
        self.told(None, first_break, SQUARE)
        self.told(None, first_break, full_web(3))
        self.told(None, first_break, (1, ()))
        self.told(None, first_break, CUBE)
        self.told(None, first_break, LADDER)

    def test_whatever_is_handed_in(self):
        for asked in [(1, ()), SQUARE, full_web(4), two_sided_web(4, 4)]:
            for thing in JUNK:
                self.told(False, break_good, asked, thing)
                self.told(False, break_good, asked, (thing, 0, 1))
                self.told(False, break_good, asked, (0, thing, 1))
                self.told(False, break_good, asked, (0, 1, thing))

    def test_what_is_near_a_break(self):
        asked = full_web(4)
        e, f, g = (0, 1, 5)
        self.told(True, break_good, asked, (e, f, g))
        for thing in [[e, f, g], (e, f), (e, f, g, g), (e, f, g, 0), (f, g), ((e, f, g),), (e, (f, g)), {0: e, 1: f},
                      (e, f, str(g)), (bool(e), f, g), (e, True, g), f"{e}{f}{g}", (e, f, -3), (e - 6, f, g),
                      (e, f - 6, g), (e, f, g - 6), (e, f, 6), (e, f, None), ([e], f, g)]:
            self.told(False, break_good, asked, thing)
        # A truth is no number, though Python takes the one for the other.
        for thing in brute_breaks(asked):
            self.told(True, break_good, asked, thing)
            for at in range(3):
                if thing[at] in (0, 1):
                    wrong = thing[:at] + (bool(thing[at]),) + thing[at + 1:]
                    self.told(False, break_good, asked, wrong)

    def test_they_lead_on_where_any_two_of_one_group_go_together(self):
        for asked in JOINED:
            table = brute_table(asked)
            lead_on = all(table[e][f] for group in brute_groups(asked) for e in group for f in group)
            self.assertEqual(self.ask(first_break, asked) is None, lead_on)


class OddRingTest(Case):
    """3.4"""

    def test_some_ring_or_none_and_the_sides(self):
        for asked in JOINED:
            sides = brute_two_sided(asked)
            ring = self.ask(odd_ring, asked)
            self.told(sides, sides_of, asked)
            if sides is None:
                self.assertIs(ring.__class__, tuple)
                self.assertTrue(all(place.__class__ is int for place in ring))
                self.assertTrue(brute_is_ring(asked, ring), (asked, ring))
                self.told(True, odd_good, asked, ring)
            else:
                self.assertIsNone(ring)

    def test_told_by_hand(self):
        self.told((0, 1, 0, 1), sides_of, SQUARE)
        self.told((0, 1), sides_of, path_web(2))
        self.told((0, 1, 1, 0, 1, 0, 0, 1), sides_of, CUBE)
        self.told((0, 1, 1, 1, 1), sides_of, star_web(5))
        self.told(None, sides_of, full_web(3))
        self.told(None, sides_of, ring_web(7))
        self.told(None, odd_ring, ring_web(8))
        self.told(None, odd_ring, CUBE)
        self.assertEqual(sorted(odd_ring(ring_web(5))), [0, 1, 2, 3, 4])
        self.assertEqual(sorted(odd_ring(ring_web(7))), [0, 1, 2, 3, 4, 5, 6])
        self.assertEqual(sorted(odd_ring(web(8, *ring_web(7)[1], (3, 7)))), [0, 1, 2, 3, 4, 5, 6])
        self.assertEqual(sorted(odd_ring(web(6, (0, 1), (1, 2), (2, 3), (3, 4), (4, 5), (3, 5)))), [3, 4, 5])

    def test_all_rings_are_good(self):
        for asked in [full_web(5), ring_web(7), web(8, *ring_web(7)[1], (3, 7)), plus(ring_web(7), (0, 2)),
                      plus(ring_web(7), (0, 3)), plus(CUBE, (0, 7)), plus(ring_web(5), (0, 2), (0, 3))]:
            for size in [3, 5, 7]:
                for ring in brute_rings(asked, size):
                    self.told(True, odd_good, asked, ring)
        self.assertEqual(len(brute_rings(ring_web(7), 7)), 14)

    def test_rings_of_other_sizes_are_none(self):
        for asked in [full_web(8), CUBE, SQUARE, ring_web(6), ring_web(8)]:
            for size in [1, 2, 4, 6, 8]:
                for ring in brute_rings(asked, size)[:50]:
                    self.told(False, odd_good, asked, ring)

    def test_all_tuples_of_few_places(self):
        for asked in [full_web(3), full_web(4), SQUARE, path_web(3), plus(SQUARE, (0, 2)), star_web(4)]:
            for size in range(6 if asked[0] == 3 else 4):
                for thing in product(range(-1, asked[0] + 1), repeat=size):
                    due = set(thing) <= set(range(asked[0])) and brute_is_ring(asked, thing)
                    self.told(due, odd_good, asked, thing)

    def test_what_is_near_a_ring(self):
        five = ring_web(5)
        for thing in [[0, 1, 2, 3, 4], (0, 1, 2, 3), (0, 1, 2, 3, 4, 0), (0, 1, 2, 4, 3), (0, 1, 2, 3, 5), "01234",
                      (0, 1, 2, 3, -1), (-1, 0, 1, 2, 3), (-5, 1, 2, 3, 4), (0, True, 2, 3, 4), (False, 1, 2, 3, 4),
                      (0, 1, 2, 3, "4"), (0, 1, 2, 3, None), ((0, 1, 2, 3, 4),), (0, 1, 2, 3, [4]), (0, 1, 2),
                      (0, 1, 0, 1, 0), (0, 1, 2, 1, 0), {0: 1, 1: 2, 2: 3, 3: 4, 4: 0}, (0, 1, 2, 3, 4, 3, 4),
                      (0, 1, 2, 3, 10 ** 39), (0, 1, 2, 3, (4,)), (0, 1, 2, 3, {})]:
            self.told(False, odd_good, five, thing)
        # Each tied to the next, but the last not to the first.
        self.told(False, odd_good, path_web(3), (0, 1, 2))
        self.told(False, odd_good, path_web(8), (0, 1, 2, 3, 4, 5, 6))
        self.told(False, odd_good, plus(path_web(5), (0, 3)), (0, 1, 2, 3, 4))
        self.told(False, odd_good, plus(path_web(5), (1, 4)), (0, 1, 2, 3, 4))
        # The last tied to the first, but one not to the next.
        self.told(False, odd_good, path_web(3), (1, 0, 2))
        self.told(False, odd_good, path_web(3), (0, 2, 1))
        # Three, five or seven: of nine and more some stand twice.
        self.told(False, odd_good, full_web(8), (0, 1, 2, 3, 4, 5, 6, 7, 0))
        self.told(False, odd_good, full_web(8), (0, 1, 2, 3, 4, 5, 0))

    def test_whatever_is_handed_in(self):
        for asked in [(1, ()), full_web(3), full_web(8)]:
            for thing in JUNK:
                self.told(False, odd_good, asked, thing)
                self.told(False, odd_good, asked, (thing, 1, 2))
                self.told(False, odd_good, asked, (0, thing, 2))
                self.told(False, odd_good, asked, (0, 1, thing))
            for times in range(1, 8):
                self.told(False, odd_good, asked, deep((0, 1, 2), times))


class SoTest(Case):
    """3.5"""

    def test_ties_of_a_least_odd_ring_are_of_one_group(self):
        sizes = {}
        for asked in JOINED:
            ring = next((ring for size in [3, 5, 7] for ring in brute_rings(asked, size)), None)
            if ring is not None:
                sizes[len(ring)] = True
                groups = self.ask(groups_of, asked)
                for least in brute_rings(asked, len(ring))[:40]:
                    steps = zip(least, least[1:] + least[:1])
                    numbers = {asked[1].index((min(step), max(step))) for step in steps}
                    self.assertEqual(len([group for group in groups if numbers & set(group)]), 1)
        self.assertEqual(sorted(sizes), [3, 5, 7])

    def test_without_odd_rings_no_two_ties_at_one_place_go_together(self):
        for asked in JOINED:
            if self.ask(odd_ring, asked) is None:
                for one, other in all_pairs(len(asked[1])):
                    if set(asked[1][one]) & set(asked[1][other]):
                        self.told(False, together, asked, one, other)

    def test_renamed_what_goes_together_goes_together(self):
        for asked in JOINED[::3]:
            for names in some_names(asked[0]):
                new, went = renumbered(asked, names)
                for one in range(len(went)):
                    due = [went[other] for other in self.ask(with_of, asked, one)]
                    self.told(sorted(due), with_of, new, went[one])


if __name__ == "__main__":
    unittest.main()
