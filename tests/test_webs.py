"""Stage 1, webs: 1.1 to 1.5."""

import unittest

from cubewebs.errors import NoPlace, NoWeb
from cubewebs.webs import (
    between, far_of, far_table, is_joined, least_way, near_of, renamed, way_good, ways_many, web_good, web_of,
)
from samples import (
    CUBE, GREAT, JUNK, Case, all_pairs, all_webs, brute_far, brute_joined, brute_least_ways, brute_tied, deep,
    full_web, path_web, ring_web, some_names, star_web, two_sided_web, web,
)

# Two parts, 0-1-2 and 3-4, and 5 alone.
PARTS = web(6, (0, 1), (1, 2), (3, 4))


class WebGoodTest(Case):
    """1.1"""

    def test_webs_are_webs(self):
        for asked in list(all_webs(4)) + GREAT:
            self.told(True, web_good, asked)

    def test_edges(self):
        self.told(True, web_good, (1, ()))
        self.told(True, web_good, (8, ()))
        self.told(True, web_good, (8, tuple(all_pairs(8))))
        self.told(True, web_good, (8, ((6, 7),)))
        self.told(False, web_good, (0, ()))
        self.told(False, web_good, (-1, ()))
        self.told(False, web_good, (9, ()))
        self.told(False, web_good, (9, ((0, 1),)))
        self.told(False, web_good, (10 ** 39, ()))

    def test_how_many_places_is_a_whole_number(self):
        for many in [None, True, False, "1", "3", "", (), (3,), [3], {3: 3}, {}]:
            self.told(False, web_good, (many, ()))

    def test_it_is_a_tuple_of_two(self):
        for thing in [[3, ()], (3,), (3, (), ()), (3, (), None), 3, ((3, ()),), {3: ()}, "3 ", ()]:
            self.told(False, web_good, thing)

    def test_ties_are_a_tuple(self):
        for ties in [[], {}, "", None, 0, False, [(0, 1)], {(0, 1): 1}, "01"]:
            self.told(False, web_good, (3, ties))

    def test_each_tie_is_a_tuple_of_two_places(self):
        for tie in [[0, 1], "01", 1, None, (), (0,), (0, 1, 2), {0: 1, 1: 2}, (0, "1"), ("0", "1"), (None, 1),
                    (0, None), ((0,), 1), (0, (1,)), ([0], [1]), (0, 3), (2, 3), (3, 4), (-1, 0), (-2, -1),
                    (0, True), (False, 1), (False, True), (True, 2), (0, 10 ** 39), ((0, 1), (0, 2))]:
            self.told(False, web_good, (3, (tie,)))
            self.told(False, web_good, (3, ((0, 1), tie)))
            self.told(False, web_good, (3, (tie, (1, 2))))

    def test_the_lesser_place_of_a_tie_is_ahead(self):
        for tie in [(0, 0), (1, 1), (2, 2), (1, 0), (2, 0), (2, 1)]:
            self.told(False, web_good, (3, (tie,)))

    def test_ties_rise(self):
        self.told(True, web_good, (4, ((0, 1), (0, 2), (1, 2), (2, 3))))
        self.told(True, web_good, (4, ((0, 3), (1, 2))))
        self.told(False, web_good, (4, ((0, 1), (0, 1))))
        self.told(False, web_good, (4, ((0, 2), (0, 1))))
        self.told(False, web_good, (4, ((1, 2), (0, 3))))
        self.told(False, web_good, (4, ((0, 1), (1, 2), (0, 2))))
        self.told(False, web_good, (4, ((0, 1), (1, 2), (1, 2))))

    def test_whatever_is_handed_in(self):
        for thing in JUNK:
            self.told(False, web_good, thing)
            self.told(thing == (), web_good, (2, thing))
            self.told(False, web_good, (2, (thing,)))
            self.told(False, web_good, (thing, ()))
            self.told(False, web_good, (2, ((0, thing),)))
        for times in range(1, 8):
            self.told(False, web_good, deep((2, ((0, 1),)), times))


class WebOfTest(Case):
    """1.2"""

    def test_pairs_in_any_order_either_end_ahead_perhaps_one_twice(self):
        self.told((4, ((0, 1), (1, 3), (2, 3))), web_of, 4, [(3, 2), (0, 1), (3, 1)])
        self.told((3, ((0, 1),)), web_of, 3, [(1, 0), (0, 1), (1, 0)])
        self.told((3, ((0, 2), (1, 2))), web_of, 3, [(2, 1), (2, 0), (1, 2)])
        self.told((8, ((0, 7), (1, 2))), web_of, 8, [(2, 1), (7, 0)])

    def test_edges(self):
        self.told((1, ()), web_of, 1, [])
        self.told((8, ()), web_of, 8, [])
        self.told(full_web(8), web_of, 8, [(b, a) for a, b in reversed(all_pairs(8))])

    def test_all_webs_come_of_their_ties(self):
        for asked in list(all_webs(4)) + GREAT:
            many, ties = asked
            self.told(asked, web_of, many, list(ties))
            self.told(asked, web_of, many, [(b, a) for a, b in reversed(ties)] + list(ties))

    def test_many_that_is_none(self):
        for many in [0, -1, 9, 10, 10 ** 39, -(10 ** 39), True, False, None, "1", "", "8", (), (1,), [], [1], {},
                     {1: 1}]:
            self.assertEqual(self.refused(NoWeb, web_of, many, []).number, -1)

    def test_many_goes_ahead_of_the_things(self):
        for many in [0, 9, True, None, "3", [3]]:
            for things in [[(0, 0)], [None], [(0, 1), (0, 1, 2)], [(0, 1)]]:
                self.assertEqual(self.refused(NoWeb, web_of, many, things).number, -1)

    def test_things_that_are_no_pairs(self):
        wrong = JUNK + [[0, 1], (0, 0), (2, 2), (0, 3), (3, 0), (3, 4), (-1, 1), (1, -1), (0, 1, 2), (0,), (),
                        "01", {0: 0, 1: 1}, (0, True), (True, 0), (False, 1), (False, 2), (2, False), (0, "1"),
                        ((0, 1),), ([0], 1), (0, [1]), (0, {}), (None, None), ("a", "b")]
        for thing in wrong:
            self.assertEqual(self.refused(NoWeb, web_of, 3, [thing]).number, 0)
            self.assertEqual(self.refused(NoWeb, web_of, 3, [(0, 1), (1, 0), thing, (1, 2)]).number, 2)

    def test_the_first_wrong_thing_is_told(self):
        self.assertEqual(self.refused(NoWeb, web_of, 3, [(0, 1), (1, 1), None, (0, 3)]).number, 1)
        self.assertEqual(self.refused(NoWeb, web_of, 3, [(0, 1), (0, 3), (1, 1), [0, 1]]).number, 1)
        self.assertEqual(self.refused(NoWeb, web_of, 3, [(0, 1), (0, 1), (0, 2), [0, 1], (0, 0)]).number, 3)
        self.assertEqual(self.refused(NoWeb, web_of, 2, [(0, 1)] * 20 + [(1, 2)]).number, 20)

    def test_places_are_below_many(self):
        for many in range(1, 9):
            self.assertEqual(self.refused(NoWeb, web_of, many, [(0, many)]).number, 0)
        for many in range(2, 9):
            self.told((many, ((0, many - 1),)), web_of, many, [(many - 1, 0)])

    def test_what_is_done_to_the_list_later_changes_nothing(self):
        things = [(0, 1), (2, 1)]
        made = web_of(3, things)
        things.append((0, 2))
        things[0] = None
        self.assertEqual(made, (3, ((0, 1), (1, 2))))


class FarTest(Case):
    """1.3"""

    def check(self, asked):
        far = brute_far(asked)
        self.told(far, far_table, asked)
        self.told(brute_joined(asked), is_joined, asked)
        for one in range(asked[0]):
            near = tuple(place for place in range(asked[0]) if brute_tied(asked, one, place))
            self.told(near, near_of, asked, one)
            for other in range(asked[0]):
                self.told(far[one][other], far_of, asked, one, other)

    def test_all_of_few_places(self):
        for asked in all_webs(5):
            self.check(asked)

    def test_some_of_up_to_eight(self):
        for asked in GREAT:
            self.check(asked)

    def test_told_by_hand(self):
        self.told((0, 2, 3), near_of, web(4, (0, 1), (1, 2), (1, 3)), 1)
        self.told((), near_of, PARTS, 5)
        self.told(0, far_of, PARTS, 5, 5)
        self.told(None, far_of, PARTS, 0, 5)
        self.told(None, far_of, PARTS, 4, 2)
        self.told(2, far_of, PARTS, 2, 0)
        self.told(7, far_of, path_web(8), 0, 7)
        self.told([[0]], far_table, (1, ()))
        self.told([[0, None], [None, 0]], far_table, (2, ()))
        self.told([[0, 1, 2], [1, 0, 1], [2, 1, 0]], far_table, path_web(3))

    def test_joined(self):
        self.told(True, is_joined, (1, ()))
        self.told(False, is_joined, (2, ()))
        self.told(True, is_joined, (2, ((0, 1),)))
        self.told(False, is_joined, PARTS)
        self.told(False, is_joined, web(8, *ring_web(7)[1]))
        self.told(False, is_joined, web(4, (1, 2), (1, 3), (2, 3)))
        self.told(False, is_joined, web(4, (0, 1), (2, 3)))

    def test_no_place(self):
        for asked in [(1, ()), path_web(3), PARTS, full_web(8)]:
            for thing in JUNK + [asked[0]]:
                self.refused(NoPlace, near_of, asked, thing)
                self.refused(NoPlace, far_of, asked, thing, 0)
                self.refused(NoPlace, far_of, asked, 0, thing)
                self.refused(NoPlace, far_of, asked, thing, thing)

    def test_told_lists_are_new(self):
        for asked in [(1, ()), PARTS, CUBE]:
            due = repr(brute_far(asked))
            table = far_table(asked)
            table[0][0] = "spoilt"
            table.append([])
            for row in table:
                row.clear()
            self.assertEqual(repr(far_table(asked)), due)
        table = far_table(full_web(3))
        table[0].append(9)
        self.assertEqual(table[1:], [[1, 0, 1], [1, 1, 0]])


class WaysTest(Case):
    """1.4"""

    def check(self, asked):
        for one in range(asked[0]):
            for other in range(asked[0]):
                ways = brute_least_ways(asked, one, other)
                self.told(ways[0] if ways else None, least_way, asked, one, other)
                self.told(len(ways), ways_many, asked, one, other)
                within = tuple(place for place in range(asked[0]) if any(place in way for way in ways))
                self.told(within, between, asked, one, other)
                for way in ways:
                    self.told(True, way_good, asked, one, other, way)

    def test_all_of_few_places(self):
        for asked in all_webs(5):
            self.check(asked)

    def test_some_of_up_to_eight(self):
        for asked in GREAT:
            self.check(asked)

    def test_told_by_hand(self):
        self.told((0, 1, 3, 7), least_way, CUBE, 0, 7)
        self.told((7, 3, 1, 0), least_way, CUBE, 7, 0)
        self.told(6, ways_many, CUBE, 0, 7)
        self.told(2, ways_many, CUBE, 1, 7)
        self.told((0, 1, 2, 3, 4, 5, 6, 7), between, CUBE, 0, 7)
        self.told((1, 3, 5, 7), between, CUBE, 7, 1)
        self.told(6, ways_many, two_sided_web(2, 6), 0, 1)
        self.told((1, 0, 4), least_way, web(5, (0, 1), (0, 4), (1, 2), (2, 3), (3, 4)), 1, 4)

    def test_the_first_as_tuples_compare_is_by_the_one_first(self):
        # The ways from 0 to 5 are 0 1 4 5 and 0 2 3 5: seen from 5 the other one is first.
        asked = web(6, (0, 1), (0, 2), (1, 4), (2, 3), (3, 5), (4, 5))
        self.told((0, 1, 4, 5), least_way, asked, 0, 5)
        self.told((5, 3, 2, 0), least_way, asked, 5, 0)

    def test_a_place_and_itself(self):
        for asked in [(1, ()), PARTS, full_web(4), ring_web(8)]:
            for place in range(asked[0]):
                self.told((place,), least_way, asked, place, place)
                self.told(1, ways_many, asked, place, place)
                self.told((place,), between, asked, place, place)
                self.told(True, way_good, asked, place, place, (place,))
                self.told(False, way_good, asked, place, place, ())
                self.told(False, way_good, asked, place, place, (place, place))

    def test_no_way(self):
        for one, other in [(0, 5), (5, 0), (0, 3), (4, 1)]:
            self.told(None, least_way, PARTS, one, other)
            self.told(0, ways_many, PARTS, one, other)
            self.told((), between, PARTS, one, other)
            for thing in [(), None, (one, other), (one,), (other,), (one, 2, other)]:
                self.told(False, way_good, PARTS, one, other, thing)

    def test_what_is_no_least_way(self):
        asked = web(6, (0, 1), (1, 2), (2, 3), (0, 3), (3, 4), (4, 5))
        self.told(True, way_good, asked, 0, 2, (0, 1, 2))
        self.told(True, way_good, asked, 0, 2, (0, 3, 2))
        self.told(True, way_good, asked, 2, 0, (2, 3, 0))
        for thing in [(2, 1, 0), (0, 2), (0,), (2,), (), (0, 1, 0, 1, 2), (0, 4, 2), (0, 5, 2), (0, 1, 3), (1, 0, 2),
                      (0, 3, 1), (0, 0, 2), (0, 2, 2), (3, 1, 2), (1, 1, 2), (0, 6, 2), (0, -5, 2), (0, -3, 2),
                      [0, 1, 2], "012", {0: 0, 1: 1, 2: 2}, ((0, 1, 2),), (0, True, 2), (False, 1, 2), (0, "1", 2),
                      (0, None, 2), (0, [1], 2), (0, (1,), 2), (0, 1, "2"), ([0], [1], [2]), (0, 1, 2, 2),
                      (0, 0, 1, 2), (0, 1, 2, 3), (0, 10 ** 39, 2)]:
            self.told(False, way_good, asked, 0, 2, thing)
        self.told(False, way_good, asked, 0, 3, (0, 1, 2, 3))
        self.told(False, way_good, asked, 0, 1, (False, True))
        self.told(False, way_good, asked, 0, 1, (0, True))
        self.told(False, way_good, asked, 0, 1, [0, 1])

    def test_all_tuples_of_few_places(self):
        for asked in [path_web(3), full_web(3), ring_web(4), star_web(4), web(4, (0, 1), (2, 3))]:
            things = [()]
            for _ in range(4):
                things = things + [thing + (place,) for thing in things for place in range(-1, asked[0] + 1)
                                   if thing + (place,) not in things]
            for one, other in [(0, 1), (1, 0), (0, 2), (2, 0), (0, 0), (2, 1)]:
                ways = brute_least_ways(asked, one, other)
                for thing in things:
                    self.told(thing in ways, way_good, asked, one, other, thing)

    def test_whatever_is_handed_in_as_the_way(self):
        for asked in [(1, ()), full_web(4), PARTS]:
            for thing in [thing for thing in JUNK if thing != (0,)]:
                self.told(False, way_good, asked, 0, 0, thing)
                self.told(False, way_good, asked, 0, asked[0] - 1, thing)

    def test_no_place(self):
        for asked in [(1, ()), path_web(3), PARTS, full_web(8)]:
            for thing in JUNK + [asked[0]]:
                for call in [least_way, ways_many, between]:
                    self.refused(NoPlace, call, asked, thing, 0)
                    self.refused(NoPlace, call, asked, 0, thing)
                    self.refused(NoPlace, call, asked, thing, thing)
                for way in [None, (0,), (thing,), (0, thing)]:
                    self.refused(NoPlace, way_good, asked, thing, 0, way)
                    self.refused(NoPlace, way_good, asked, 0, thing, way)


class RenamedTest(Case):
    """1.5"""

    def test_told_by_hand(self):
        self.told((3, ((0, 1), (0, 2))), renamed, path_web(3), (1, 0, 2))
        # Place 0 becomes 1, 1 becomes 2, 2 becomes 3, 3 becomes 0.
        self.told((4, ((0, 3), (1, 2))), renamed, web(4, (0, 1), (2, 3)), (1, 2, 3, 0))
        self.told((4, ((1, 2), (2, 3))), renamed, web(4, (0, 1), (1, 2)), (1, 2, 3, 0))
        self.told((4, ((0, 1), (0, 3))), renamed, web(4, (0, 1), (1, 2)), (3, 0, 1, 2))
        self.told((1, ()), renamed, (1, ()), (0,))

    def test_its_own_names_leave_a_web_as_it_is(self):
        for asked in list(all_webs(4)) + GREAT:
            self.told(asked, renamed, asked, tuple(range(asked[0])))

    def test_so_far_apart_as_places_were_their_new_ones_are(self):
        for asked in list(all_webs(5)) + GREAT:
            far = brute_far(asked)
            for names in some_names(asked[0]):
                new = self.ask(renamed, asked, names)
                self.assertTrue(web_good(new))
                moved = brute_far(new)
                for a in range(asked[0]):
                    for b in range(asked[0]):
                        self.assertEqual(moved[names[a]][names[b]], far[a][b])

    def test_no_names(self):
        for thing in JUNK + [[0, 1, 2], (0, 1), (0, 1, 2, 3), (0, 0, 1), (2, 2, 2), (0, 1, 1), (1, 2, 3), (0, 1, 3),
                             (-1, 0, 1), (0, 1, -1), (-3, -2, -1), "012", {0: 0, 1: 1, 2: 2}, (0, True, 2),
                             (False, 1, 2), (False, True, 2), (0, 1, "2"), (0, 1, None), ((0, 1, 2),), (0, 1, (2,)),
                             ([0], [1], [2]), ({}, [], ()), (0, 1, [2]), (10 ** 39, 0, 1)]:
            self.refused(NoPlace, renamed, path_web(3), thing)
        for thing in [(), (1,), (False,), 0, [0], (0, 1), None, "0", (-1,), (0, 0)]:
            self.refused(NoPlace, renamed, (1, ()), thing)
        for many in range(2, 9):
            self.refused(NoPlace, renamed, path_web(many), tuple(range(1, many + 1)))
            self.refused(NoPlace, renamed, path_web(many), tuple(range(many - 1)))
            self.refused(NoPlace, renamed, path_web(many), tuple(range(many + 1)))
            self.refused(NoPlace, renamed, path_web(many), (0,) + tuple(range(many - 1)))


if __name__ == "__main__":
    unittest.main()
