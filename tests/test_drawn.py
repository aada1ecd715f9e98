"""Stage 9, ties drawn together and alike webs: 9.1 to 9.5."""

import unittest
from itertools import permutations, product

from cubewebs.drawn import (
    drawn_by, drawn_names, drawn_web, first_renaming, least_form, own_many, renaming_good,
)
from cubewebs.errors import NoCube, NoTie, TooGreat
from cubewebs.lying import lies
from cubewebs.tallied import bit_of, fewest_bits
from cubewebs.webs import renamed, web_good
from samples import (
    CUBE, GREAT, JUNK, LADDER, NO_ORDER, NO_RISING, Case, Numbers, all_rising, all_webs, brute_groups, brute_lies,
    brute_renamings, deep, full_web, junk_but, path_web, plus, ring_web, some_names, star_web, two_sided_web, web,
)

FEW = list(all_webs(4))
EVERY = list(all_webs(5)) + GREAT
LYING = [asked for asked in EVERY if brute_lies(asked)]
OTHERS = [asked for asked in EVERY if not brute_lies(asked)]
FIVES = [asked for asked in all_webs(5) if asked[0] == 5]

ONE = (1, ())
SQUARE = ring_web(4)
SIX = ring_web(6)
PARTS = web(6, (0, 1), (1, 2), (0, 2), (3, 4))
NO_CUBES = [(2, ()), PARTS, full_web(3), ring_web(5), two_sided_web(2, 3), web(8, *ring_web(6)[1])]

# Two webs of eight places, each tied to three: a ring with the places over against each other tied.
WHEEL = plus(ring_web(8), (0, 4), (1, 5), (2, 6), (3, 7))
# Each place tied to five others: those that are not tied make one ring, or two.
ONE_RING = (8, tuple(tie for tie in full_web(8)[1] if tie not in ring_web(8)[1]))
TWO_RINGS = (8, tuple(tie for tie in full_web(8)[1]
                      if tie not in SQUARE[1] and tie not in ((4, 5), (5, 6), (6, 7), (4, 7))))

# Webs of six places, and how many renamings of each to itself there are.
OWN = {
    SIX: 12, two_sided_web(3, 3): 72, web(6, (0, 1), (2, 3), (4, 5)): 48, plus(SIX, (0, 3), (1, 5), (2, 4)): 12,
    web(6, (0, 1), (0, 2), (1, 2), (3, 4), (3, 5), (4, 5)): 72, web(6, (0, 1), (1, 2), (3, 4), (4, 5)): 8,
    web(6, *ring_web(5)[1]): 10, web(6, *SQUARE[1], (4, 5)): 16, plus(SIX, (0, 3)): 4, path_web(6): 2,
}


def brute_drawn(asked, some):
    """The new names and the web, by painting: both ends of a tie of these groups get one colour."""
    groups = brute_groups(asked)
    drawn = [asked[1][number] for at in some for number in groups[at]]
    colours = list(range(asked[0]))
    for a, b in drawn * asked[0]:
        colours[a] = colours[b] = min(colours[a], colours[b])
    leasts = sorted(set(colours))
    names = tuple(leasts.index(colour) for colour in colours)
    others = [tie for tie in asked[1] if tie not in drawn]
    ties = {(min(names[a], names[b]), max(names[a], names[b])) for a, b in others}
    return names, (len(leasts), tuple(sorted(ties)))


def plain_renamed(asked, names):
    ties = [(min(names[a], names[b]), max(names[a], names[b])) for a, b in asked[1]]
    return (asked[0], tuple(sorted(ties)))


def first_by_trying(asked, other):
    return next(brute_renamings(asked, other), None)


class NoCubeTest(Case):
    """9.1, 9.2: NoCube goes first"""

    def test_webs_that_lie_in_no_cube(self):
        for asked in OTHERS:
            self.refused(NoCube, drawn_web, asked, 0)
            self.refused(NoCube, drawn_names, asked, 0)
            self.refused(NoCube, drawn_by, asked, ())

    def test_ahead_of_no_tie(self):
        for asked in NO_CUBES:
            for thing in JUNK:
                self.refused(NoCube, drawn_web, asked, thing)
                self.refused(NoCube, drawn_names, asked, thing)
                self.refused(NoCube, drawn_by, asked, thing)


class DrawnTest(Case):
    """9.1"""

    def test_by_hand(self):
        self.told((1, ()), drawn_web, path_web(2), 0)
        self.told((0, 0), drawn_names, path_web(2), 0)
        self.told((2, ((0, 1),)), drawn_web, SQUARE, 0)
        self.told((0, 0, 1, 1), drawn_names, SQUARE, 0)
        self.told((0, 1, 1, 0), drawn_names, SQUARE, 1)
        self.told((3, ((0, 1), (1, 2))), drawn_web, path_web(4), 1)
        self.told((0, 1, 1, 2), drawn_names, path_web(4), 1)
        self.told(SQUARE, drawn_web, SIX, 0)
        self.told((0, 0, 1, 2, 2, 3), drawn_names, SIX, 0)
        self.told((4, ((0, 1), (0, 2), (1, 3), (2, 3))), drawn_web, CUBE, 2)
        self.told((0, 1, 2, 3, 0, 1, 2, 3), drawn_names, CUBE, 2)

    def test_numbered_by_the_least_of_the_old_places(self):
        # Of the way 2-0-3-1 the places 1 and 3 become one, behind 0 and ahead of 2.
        asked = web(4, (0, 2), (0, 3), (1, 3))
        self.told((0, 1, 2, 1), drawn_names, asked, 2)
        self.told((3, ((0, 1), (0, 2))), drawn_web, asked, 2)
        self.told((0, 1, 2, 0), drawn_names, asked, 1)
        self.told((3, ((0, 1), (0, 2))), drawn_web, asked, 1)
        self.told((0, 1, 0, 2), drawn_names, asked, 0)
        self.told((3, ((0, 2), (1, 2))), drawn_web, asked, 0)

    def test_over_many_webs(self):
        for asked in LYING:
            for number in range(len(brute_groups(asked))):
                names, drawn = brute_drawn(asked, (number,))
                self.told(names, drawn_names, asked, number)
                self.told(drawn, drawn_web, asked, number)

    def test_no_tie(self):
        for asked in [ONE, path_web(2), SQUARE, CUBE, path_web(8)]:
            for call in [drawn_web, drawn_names]:
                for thing in JUNK + [len(brute_groups(asked)), (0, 1)]:
                    self.refused(NoTie, call, asked, thing)

    def test_numbers_of_groups_are_no_numbers_of_ties(self):
        for asked in [SQUARE, SIX, CUBE, ring_web(8)]:
            many = len(brute_groups(asked))
            for number in range(many, len(asked[1])):
                self.refused(NoTie, drawn_web, asked, number)
                self.refused(NoTie, drawn_names, asked, number)
                self.refused(NoTie, drawn_by, asked, (number,))


class DrawnByTest(Case):
    """9.2"""

    def test_by_hand(self):
        self.told((2, ((0, 1),)), drawn_by, SIX, (0, 2))
        self.told((2, ((0, 1),)), drawn_by, CUBE, (0, 1))
        self.told(path_web(5), drawn_by, path_web(8), (0, 3, 6))
        self.told(ONE, drawn_by, ONE, ())

    def test_all_groups_over_many_webs(self):
        for asked in [asked for asked in LYING if asked[0] < 5] + LYING[-60:]:
            many = len(brute_groups(asked))
            for some in all_rising(many):
                _, drawn = brute_drawn(asked, some)
                self.told(drawn, drawn_by, asked, some)

    def test_of_one_group_it_is_drawn_web(self):
        for asked in LYING:
            for number in range(len(brute_groups(asked))):
                self.told(self.ask(drawn_web, asked, number), drawn_by, asked, (number,))

    def test_of_no_group_it_is_the_web_of_all_that_of_one_place(self):
        for asked in LYING:
            self.told(asked, drawn_by, asked, ())
            self.told(ONE, drawn_by, asked, tuple(range(len(brute_groups(asked)))))

    def test_in_two_steps_it_is_the_same_but_for_the_numbers_of_its_places(self):
        for asked in [asked for asked in LYING if len(brute_groups(asked)) > 1][::3]:
            groups = brute_groups(asked)
            for first in range(len(groups)):
                names = self.ask(drawn_names, asked, first)
                step = self.ask(drawn_web, asked, first)
                for other in range(len(groups)):
                    if other != first:
                        a, b = asked[1][groups[other][0]]
                        tie = (min(names[a], names[b]), max(names[a], names[b]))
                        number = bit_of(step, step[1].index(tie))
                        told = self.ask(drawn_web, step, number)
                        once = self.ask(drawn_by, asked, (min(first, other), max(first, other)))
                        self.assertIsNotNone(first_by_trying(told, once))

    def test_no_tie(self):
        for thing in NO_RISING:
            self.refused(NoTie, drawn_by, CUBE, thing)
            self.refused(NoTie, drawn_by, path_web(4), thing)
        for some in all_rising(3):
            self.ask(drawn_by, CUBE, some)
        for thing in junk_but(()):
            self.refused(NoTie, drawn_by, ONE, thing)
        for many in range(2, 9):
            for thing in [(many - 1,), (0, many - 1), tuple(range(many)), (-1,), (-1, 0), (0, 0), [0], [], (False,),
                          0, None, {}, "0", ((0,),), (many - 2, many - 2), (0, None)]:
                self.refused(NoTie, drawn_by, path_web(many), thing)
        self.refused(NoTie, drawn_by, CUBE, (2, 1))
        self.refused(NoTie, drawn_by, CUBE, (0, 2, 1))
        for times in range(1, 8):
            self.refused(NoTie, drawn_by, CUBE, deep((0, 1), times))


class RenamingTest(Case):
    """9.3"""

    def test_by_hand(self):
        self.told(True, renaming_good, path_web(3), web(3, (0, 1), (0, 2)), (1, 0, 2))
        self.told(True, renaming_good, path_web(3), web(3, (0, 1), (0, 2)), (2, 0, 1))
        self.told(False, renaming_good, path_web(3), web(3, (0, 1), (0, 2)), (0, 1, 2))
        self.told((1, 0, 2), first_renaming, path_web(3), web(3, (0, 1), (0, 2)))
        # Names tell the new place of each old one, not the old place of each new one.
        asked = web(4, (0, 1), (1, 2))
        self.told(True, renaming_good, asked, web(4, (1, 2), (2, 3)), (1, 2, 3, 0))
        self.told(False, renaming_good, asked, web(4, (1, 2), (2, 3)), (3, 0, 1, 2))
        self.told((0,), first_renaming, ONE, ONE)
        self.told((0, 1, 2, 3), first_renaming, (4, ()), (4, ()))
        self.told(None, first_renaming, (4, ()), (3, ()))
        self.told(None, first_renaming, ONE, path_web(2))
        self.told(None, first_renaming, star_web(4), path_web(4))
        self.told(None, first_renaming, path_web(3), full_web(3))
        self.told(None, first_renaming, full_web(3), path_web(3))

    def test_all_of_few_places(self):
        for asked in FEW:
            for other in FEW:
                if asked[0] == other[0] and len(asked[1]) == len(other[1]):
                    good = list(brute_renamings(asked, other))
                    self.told(good[0] if good else None, first_renaming, asked, other)
                    for names in permutations(range(asked[0])):
                        self.told(names in good, renaming_good, asked, other, names)
                elif asked[0] - other[0] in (-1, 0, 1) and len(other[1]) < 3:
                    self.told(None, first_renaming, asked, other)
                    self.told(False, renaming_good, asked, other, tuple(range(asked[0])))
                    self.told(False, renaming_good, asked, other, tuple(range(other[0])))

    def test_some_of_five_places(self):
        for asked in FIVES[::23]:
            for other in FIVES[::17]:
                self.told(first_by_trying(asked, other), first_renaming, asked, other)

    def test_some_of_up_to_eight(self):
        alike = {True: 0, False: 0}
        numbers = Numbers(8)
        for asked in GREAT:
            names = tuple(numbers.mixed(range(asked[0])))
            other = plain_renamed(asked, names)
            self.told(True, renaming_good, asked, other, names)
            found = self.ask(first_renaming, asked, other)
            self.assertEqual(plain_renamed(asked, found), other)
            self.assertLessEqual(found, names)
        for asked, other in product([CUBE, WHEEL, ONE_RING, LADDER, ring_web(8), plus(ring_web(8), (0, 4), (2, 6)),
                                     plus(ring_web(8), (0, 3), (4, 7)), plus(ring_web(8), (0, 4), (1, 5))], repeat=2):
            other = plain_renamed(other, numbers.mixed(range(8)))
            due = first_by_trying(asked, other)
            alike[due is not None] += 1
            self.told(due, first_renaming, asked, other)
        self.assertGreater(min(alike.values()), 5)

    def test_as_far_apart_by_number_and_not_alike(self):
        # Each place is as far from as many others as in the other web; still they are not alike.
        one = web(6, (0, 1), (2, 3), (4, 5), (0, 2), (2, 4), (0, 4), (1, 3), (3, 5), (1, 5))
        other = two_sided_web(3, 3)
        self.told(None, first_renaming, one, other)
        self.told(None, first_renaming, ONE_RING, TWO_RINGS)
        self.told(None, first_renaming, TWO_RINGS, ONE_RING)
        self.assertIsNone(first_by_trying(ONE_RING, TWO_RINGS))

    def test_of_webs_that_are_not_joined(self):
        one = web(8, (0, 1), (1, 2), (0, 2), (3, 4), (4, 5), (3, 5))
        other = web(8, (2, 7), (2, 4), (4, 7), (0, 6), (0, 3), (3, 6))
        due = first_by_trying(one, other)
        self.told(due, first_renaming, one, other)
        self.told(None, first_renaming, one, web(8, *SIX[1]))
        self.told(None, first_renaming, web(8, *SIX[1]), one)

    def test_in_good_time_of_two_webs_of_eight_places(self):
        numbers = Numbers(9)
        great = [asked for asked in GREAT if asked[0] == 8] + [WHEEL, ONE_RING, TWO_RINGS]
        for one in great:
            for turn in range(3):
                names = tuple(numbers.mixed(range(8)))
                found = self.soon(first_renaming, one, plain_renamed(one, names))
                self.assertEqual(plain_renamed(one, found), plain_renamed(one, names))
            for other in great:
                found = self.soon(first_renaming, one, other)
                if found is not None:
                    self.assertEqual(plain_renamed(one, found), other)

    def test_what_is_no_renaming(self):
        three = full_web(3)
        for thing in NO_ORDER:
            self.told(False, renaming_good, three, three, thing)
            self.told(False, renaming_good, path_web(3), path_web(3), thing)
        for names in permutations(range(3)):
            self.told(True, renaming_good, three, three, names)
        for thing in junk_but((0,)):
            self.told(False, renaming_good, ONE, ONE, thing)
        for many in range(2, 9):
            for thing in [tuple(range(many - 1)), tuple(range(many + 1)), tuple(range(1, many + 1)), list(range(many)),
                          (False, *range(1, many)), (0, True, *range(2, many)), (0,) * many, (), None]:
                self.told(False, renaming_good, full_web(many), full_web(many), thing)
        for times in range(1, 8):
            self.told(False, renaming_good, three, three, deep((0, 1, 2), times))

    def test_to_a_web_with_more_places_or_fewer_there_is_none(self):
        for one, other in product(range(1, 9), repeat=2):
            if one != other:
                self.told(None, first_renaming, (one, ()), (other, ()))
                self.told(False, renaming_good, (one, ()), (other, ()), tuple(range(one)))
                self.told(False, renaming_good, (one, ()), (other, ()), tuple(range(other)))


class FormTest(Case):
    """9.4"""

    def test_by_hand(self):
        self.told(ONE, least_form, ONE)
        self.told(1, own_many, ONE)
        self.told((3, ((0, 1), (0, 2))), least_form, path_web(3))
        self.told(2, own_many, path_web(3))
        self.told((4, ((0, 1), (0, 2), (1, 3))), least_form, path_web(4))
        self.told((4, ((0, 1), (0, 2), (1, 3), (2, 3))), least_form, SQUARE)
        self.told(8, own_many, SQUARE)
        self.told((3, ((0, 1),)), least_form, web(3, (1, 2)))
        self.told((6, ()), least_form, (6, ()))
        self.told(720, own_many, (6, ()))
        self.told(720, own_many, full_web(6))
        self.told(12, own_many, SIX)
        self.told(120, own_many, star_web(6))
        self.told(star_web(6), least_form, web(6, (0, 5), (1, 5), (2, 5), (3, 5), (4, 5)))
        self.told(72, own_many, two_sided_web(3, 3))

    def test_over_many_webs(self):
        numbers = Numbers(10)
        thick = [(6, tuple(tie for tie in full_web(6)[1] if numbers.below(6) < keep)) for keep in range(1, 6)]
        some = [asked for asked in GREAT if asked[0] == 6][:20] + thick + list(OWN)
        for asked in FEW + FIVES[::3] + some:
            every = [plain_renamed(asked, names) for names in permutations(range(asked[0]))]
            due = min(every)
            self.told(due, least_form, asked)
            self.told(every.count(asked), own_many, asked)
            self.assertIsNotNone(self.ask(first_renaming, asked, due))

    def test_webs_in_which_many_places_are_alike(self):
        for asked, many in OWN.items():
            self.told(many, own_many, asked)
            self.told(many, own_many, (6, tuple(tie for tie in full_web(6)[1] if tie not in asked[1])))

    def test_in_good_time_of_many_webs_of_six_places(self):
        def asked_often(webs):
            for asked in webs:
                for _ in range(600):
                    self.assertEqual(own_many(least_form(asked)), own_many(asked))

        # Trying all 720 orders of six places takes about ten milliseconds for each answer.
        self.soon(asked_often, [full_web(6), (6, ()), SIX, two_sided_web(3, 3), star_web(6), PARTS])

    def test_six_places_and_seven(self):
        for call in [least_form, own_many]:
            for asked in [(6, ()), full_web(6), PARTS]:
                self.ask(call, asked)
            for many in [7, 8]:
                for asked in [(many, ()), path_web(many), full_web(many), ring_web(many), star_web(many)]:
                    refusal = self.refused(TooGreat, call, asked)
                    self.assertEqual((refusal.many, refusal.most), (many, 6))


class SoTest(Case):
    """9.5"""

    def test_a_web_drawn_together_lies_in_a_cube_with_one_bit_fewer(self):
        for asked in LYING:
            fewest = len(brute_groups(asked))
            for number in range(fewest):
                drawn = self.ask(drawn_web, asked, number)
                self.told(True, web_good, drawn)
                self.assertTrue(brute_lies(drawn))
                self.told(True, lies, drawn)
                self.told(fewest - 1, fewest_bits, drawn)

    def test_alike_webs_have_the_same_least_form_and_as_many_own_renamings(self):
        for asked in FEW + FIVES[::31] + [SIX, PARTS, two_sided_web(3, 3), path_web(6)]:
            form = self.ask(least_form, asked)
            many = self.ask(own_many, asked)
            for names in some_names(asked[0]):
                other = plain_renamed(asked, names)
                self.told(form, least_form, other)
                self.told(many, own_many, other)

    def test_just_alike_webs_have_the_same_least_form(self):
        forms = {asked: self.ask(least_form, asked) for asked in FEW}
        for asked in FEW:
            for other in FEW[::3]:
                alike = self.ask(first_renaming, asked, other) is not None
                self.assertEqual(alike, forms[asked] == forms[other])

    def test_what_is_renamed_is_alike(self):
        for asked in EVERY[::3] + LYING:
            for names in some_names(asked[0]):
                other = self.ask(renamed, asked, names)
                self.told(True, renaming_good, asked, other, names)
                found = self.ask(first_renaming, asked, other)
                self.told(True, renaming_good, asked, other, found)
                self.assertLessEqual(found, names)


if __name__ == "__main__":
    unittest.main()
