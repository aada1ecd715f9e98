"""Points 0.2 to 0.4, over all that the program tells: nothing is changed, answers stay, kinds of things."""

import unittest

from cubewebs import addresses, drawn, halves, lying, made, middles, tallied, texts, together, webs
from cubewebs.desk import Desk
from cubewebs.errors import Apart, CubeError, NoCube, NoLine, NoPlace, NoText, NoTie, NoWeb, TooGreat
from samples import CUBE, JUNK, Case, full_web, path_web, ring_web, two_sided_web, web

SQUARE = ring_web(4)
LOOSE = web(6, (0, 1), (1, 2), (0, 2), (3, 4))
ASKED = [(1, ()), SQUARE, CUBE, full_web(4), two_sided_web(2, 3), ring_web(7), path_web(8)]


def questions(asked):
    """One question for each function of the interface, each as a tuple of it and what is handed in."""
    last = asked[0] - 1
    listed = [
        (webs.web_good, asked), (webs.web_of, asked[0], list(asked[1])), (webs.near_of, asked, last),
        (webs.far_of, asked, 0, last), (webs.far_table, asked), (webs.is_joined, asked),
        (webs.least_way, asked, 0, last), (webs.ways_many, asked, 0, last), (webs.between, asked, 0, last),
        (webs.way_good, asked, 0, last, (0, last)), (webs.renamed, asked, tuple(reversed(range(asked[0])))),
        (together.groups_of, asked), (together.break_good, asked, (0, 1, 5)), (together.first_break, asked),
        (together.odd_good, asked, (0, 1, 2)), (together.odd_ring, asked), (together.sides_of, asked),
        (lying.paper_good, asked, ("odd", (0, 1, 2))), (lying.paper_of, asked), (lying.lies, asked),
    ]
    bits = tuple((place & 1, place >> 1 & 1, place >> 2) for place in range(asked[0]))
    listed += [
        (addresses.bits_good, asked, bits), (addresses.addresses_good, asked, bits),
        (addresses.stretch_of, asked, bits, 0, last), (addresses.first_stretch, asked, bits),
        (addresses.web_by, bits), (addresses.turned_bits, bits, (0, 2)), (addresses.put_bits, bits, (2, 0, 1)),
        (addresses.lean_bits, bits), (addresses.led_bits, bits, tuple(row[::-1] for row in bits)),
        (halves.closed_good, asked, (0, last)), (halves.closed_lots, asked), (halves.hull_of, asked, (last,)),
        (halves.left_by, asked, (0,)), (halves.open_good, asked, (0, 0, 3, 4, 1)), (halves.first_open, asked),
        (drawn.renaming_good, asked, asked, tuple(reversed(range(asked[0])))), (drawn.first_renaming, asked, asked),
        (middles.middles_of, asked, 0, last // 2, last), (middles.has_middles, asked),
        (middles.gap_good, asked, (0, 1, 2)), (middles.first_gap, asked), (middles.majority, (0, 1), (1, 1), (1, 0)),
        (middles.filled_bits, bits), (middles.nearest_of, asked, [0, last, last // 2]),
        (made.pairs_web, asked, (1, ())), (made.joined_at, asked, last, (1, ()), 0),
        (made.pairs_bits, bits, ((1, 0),)), (texts.web_shown, asked), (texts.web_read, f"web {asked[0]} 0"),
    ]
    if asked[0] < 8:
        listed += [(made.hung_at, asked, last), (made.doubled, asked, (last,)), (made.doubled_bits, bits, (last,))]
    if asked[0] > 1:
        listed.append((made.without_place, asked, 0))
    if asked[0] < 7:
        listed += [(drawn.least_form, asked), (drawn.own_many, asked)]
    if asked[1]:
        number = len(asked[1]) - 1
        listed += [(together.together, asked, 0, number), (together.with_of, asked, number),
                   (halves.halves_of, asked, number)]
    if lying.lies(asked):
        listed += questions_of_a_cube(asked)
    return listed


def questions_of_a_cube(asked):
    listed = [
        (lying.addresses_of, asked), (tallied.fewest_bits, asked), (tallied.addresses_many, asked, 8),
        (tallied.first_addresses, asked, 8), (tallied.from_place, asked, asked[0] - 1),
        (tallied.weight_table, asked), (drawn.drawn_by, asked, ()),
    ]
    if tallied.fewest_bits(asked) < 4:
        listed.append((tallied.all_addresses, asked))
    if asked[1]:
        listed += [(tallied.bit_of, asked, 0), (drawn.drawn_web, asked, 0), (drawn.drawn_names, asked, 0)]
    return listed


class AskedTest(Case):
    def test_the_same_question_has_the_same_answer_whatever_was_asked_in_between(self):
        first = [repr(self.ask(*question)) for asked in ASKED for question in questions(asked)]
        again = [[repr(self.ask(*question)) for question in reversed(questions(asked))] for asked in reversed(ASKED)]
        self.assertEqual(first, [told for row in reversed(again) for told in reversed(row)])

    def test_refusals_in_between_change_nothing(self):
        first = [repr(self.ask(*question)) for asked in ASKED for question in questions(asked)]
        for asked in ASKED:
            for thing in JUNK[:30]:
                self.refused(NoPlace, webs.near_of, asked, thing)
                self.refused(NoPlace, webs.renamed, asked, [thing])
                self.refused(NoWeb, webs.web_of, asked[0], [thing])
                self.refused(NoTie, together.with_of, asked, thing)
                self.refused(Apart, together.groups_of, LOOSE)
                self.refused(NoCube, lying.addresses_of, LOOSE)
                self.refused(NoCube, tallied.fewest_bits, LOOSE)
                self.refused(NoCube, addresses.first_stretch, asked, [thing])
                self.refused(NoLine, addresses.put_bits, ((0, 1), (1, 1)), [thing])
                self.refused(NoPlace, halves.hull_of, asked, [thing])
                self.refused(NoTie, drawn.drawn_by, SQUARE, [thing])
                self.refused(TooGreat, drawn.least_form, CUBE)
                self.refused(NoPlace, middles.nearest_of, asked, [thing, thing])
                self.refused(NoCube, middles.majority, (0, 1), [thing], (1, 1))
                self.refused(NoPlace, made.joined_at, asked, 0, asked, thing)
                self.refused(NoLine, made.doubled_bits, ((0, 1), (1, 1)), [thing])
                self.refused(NoText, texts.web_read, thing)
        again = [repr(self.ask(*question)) for asked in ASKED for question in questions(asked)]
        self.assertEqual(first, again)

    def test_told_lists_and_those_within_are_the_askers_own(self):
        for asked in ASKED:
            for question in questions(asked):
                due = repr(self.ask(*question))
                got = self.ask(*question)
                if isinstance(got, list):
                    for row in got:
                        if isinstance(row, list):
                            row.append("spoilt")
                    got.append("spoilt")
                    self.assertEqual(repr(self.ask(*question)), due)

    def test_equal_webs_have_equal_answers(self):
        for asked in ASKED:
            other = (asked[0], tuple((a, b) for a, b in list(asked[1])))
            self.assertEqual([repr(self.ask(*question)) for question in questions(asked)],
                             [repr(self.ask(*question)) for question in questions(other)])

    def test_what_is_told_may_be_handed_in_again(self):
        for asked in ASKED:
            again = self.ask(webs.web_of, asked[0], list(asked[1]))
            self.told(True, webs.web_good, again)
            way = self.ask(webs.least_way, again, 0, asked[0] - 1)
            self.told(True, webs.way_good, again, 0, asked[0] - 1, way)
            self.told(True, webs.web_good, self.ask(webs.renamed, again, tuple(reversed(range(asked[0])))))
            found = self.ask(together.first_break, again)
            self.told(found is not None, together.break_good, again, found)
            ring = self.ask(together.odd_ring, again)
            self.told(ring is not None, together.odd_good, again, ring)
            self.told(True, lying.paper_good, again, self.ask(lying.paper_of, again))
            self.told(True, halves.closed_good, again, self.ask(halves.hull_of, again, (0, asked[0] - 1)[:asked[0]]))
            found = self.ask(halves.first_open, again)
            self.told(found is not None, halves.open_good, again, found)
            names = self.ask(drawn.first_renaming, again, again)
            self.told(True, drawn.renaming_good, again, again, names)
            self.told(again, texts.web_read, self.ask(texts.web_shown, again))
            found = self.ask(middles.first_gap, again)
            self.told(found is not None, middles.gap_good, again, found)
            if lying.lies(asked):
                self.cube_told_again(again)

    def cube_told_again(self, again):
        rows = self.ask(tallied.first_addresses, again, 9)
        self.told(True, addresses.addresses_good, again, rows)
        self.told(again, addresses.web_by, self.ask(addresses.lean_bits, rows))
        here, there = self.ask(tallied.from_place, again, 0), self.ask(tallied.from_place, again, again[0] - 1)
        order, turned = self.ask(addresses.led_bits, here, there)
        self.told(there, addresses.turned_bits, self.ask(addresses.put_bits, here, order), turned)
        if again[0] < 5:
            pairs = self.ask(made.pairs_web, again, (2, ((0, 1),)))
            self.told(True, addresses.addresses_good, pairs, self.ask(made.pairs_bits, here, ((0,), (1,))))
        if again[0] < 8:
            self.told(again, made.without_place, self.ask(made.hung_at, again, 0), again[0])
        for number in range(self.ask(tallied.fewest_bits, again)):
            self.told(True, lying.lies, self.ask(drawn.drawn_web, again, number))

    def test_lists_handed_in_as_whatever_stay_as_they_are(self):
        inner = [0, 1]
        thing = ("odd", [inner, {"lies": inner}])
        things = [(0, 1), inner]
        for call, handed in [(webs.web_good, (thing,)), (webs.web_good, ([2, [inner]],)),
                             (webs.way_good, (SQUARE, 0, 1, inner)), (together.odd_good, (SQUARE, [inner])),
                             (together.break_good, (SQUARE, inner)), (lying.paper_good, (SQUARE, thing)),
                             (addresses.bits_good, ((2, ()), inner)), (addresses.bits_good, ((2, ()), (inner, inner))),
                             (addresses.addresses_good, (SQUARE, [inner])), (halves.closed_good, (SQUARE, inner)),
                             (halves.open_good, (SQUARE, [0, 0, *inner, 2])),
                             (drawn.renaming_good, (SQUARE, SQUARE, inner)), (middles.gap_good, (SQUARE, [*inner, 2]))]:
            self.told(False, call, *handed)
        self.refused(NoWeb, webs.web_of, 3, things)
        self.refused(NoPlace, webs.renamed, (2, ()), inner)
        self.refused(NoPlace, halves.hull_of, SQUARE, inner)
        self.refused(NoTie, drawn.drawn_by, SQUARE, inner)
        self.refused(NoLine, addresses.turned_bits, ((0, 1),), inner)
        self.refused(NoLine, addresses.put_bits, ((0, 1),), inner)
        self.refused(NoCube, addresses.web_by, (inner,))
        self.refused(NoCube, middles.majority, inner, (0, 1), (0, 1))
        self.refused(NoPlace, middles.nearest_of, SQUARE, [inner])
        self.refused(NoPlace, made.doubled, SQUARE, inner)
        self.refused(NoText, texts.web_read, inner)
        self.refused(NoLine, Desk().say, inner)
        self.assertEqual((inner, things), ([0, 1], [(0, 1), [0, 1]]))

    def test_answers_are_of_their_kinds(self):
        kinds = {
            "web_good": bool, "web_of": tuple, "near_of": tuple, "far_of": int, "far_table": list, "is_joined": bool,
            "least_way": tuple, "ways_many": int, "between": tuple, "way_good": bool, "renamed": tuple,
            "together": bool, "with_of": list, "groups_of": list, "break_good": bool, "odd_good": bool,
            "paper_good": bool, "paper_of": tuple, "lies": bool, "addresses_of": tuple,
            "bits_good": bool, "addresses_good": bool, "stretch_of": int, "web_by": tuple, "turned_bits": tuple,
            "put_bits": tuple, "lean_bits": tuple, "halves_of": tuple, "closed_good": bool, "closed_lots": list,
            "hull_of": tuple, "open_good": bool, "fewest_bits": int, "bit_of": int, "addresses_many": int,
            "first_addresses": tuple, "all_addresses": list, "from_place": tuple, "weight_table": list,
            "drawn_web": tuple, "drawn_names": tuple, "drawn_by": tuple, "renaming_good": bool,
            "first_renaming": tuple, "least_form": tuple, "own_many": int,
            "middles_of": tuple, "has_middles": bool, "gap_good": bool, "majority": tuple, "filled_bits": tuple,
            "nearest_of": tuple, "pairs_web": tuple, "joined_at": tuple, "hung_at": tuple, "doubled": tuple,
            "pairs_bits": tuple, "doubled_bits": tuple, "without_place": tuple, "web_shown": str, "web_read": tuple,
        }
        nones = {"first_break": tuple, "odd_ring": tuple, "sides_of": tuple, "first_stretch": tuple,
                 "led_bits": tuple, "left_by": tuple, "first_open": tuple, "first_gap": tuple}
        for asked in ASKED:
            for call, *handed in questions(asked):
                got = self.ask(call, *handed)
                if call.__name__ in kinds:
                    self.assertIs(got.__class__, kinds[call.__name__], call)
                else:
                    self.assertIn(got.__class__, [None.__class__, nones[call.__name__]])

    def test_each_refusal_is_caught_as_a_cube_error_and_a_value_error(self):
        for call, handed in [(webs.web_of, (0, [])), (webs.near_of, (SQUARE, 4)), (together.groups_of, (LOOSE,)),
                             (together.with_of, (SQUARE, 4)), (lying.addresses_of, (LOOSE,)),
                             (addresses.web_by, ((),)), (addresses.put_bits, (((0,),), ())),
                             (halves.left_by, (SQUARE, (4,))), (tallied.all_addresses, (path_web(8),)),
                             (drawn.drawn_web, (SQUARE, 2)), (drawn.own_many, (path_web(7),)),
                             (middles.first_gap, (LOOSE,)), (made.pairs_web, (CUBE, CUBE)), (texts.web_read, ("",)),
                             (Desk().say, ("back",)), (Desk().say, ("fresh 9",)), (Desk().say, ("drop 0",))]:
            with self.assertRaises(CubeError):
                call(*handed)
            with self.assertRaises(ValueError):
                call(*handed)

    def test_which_refusal_goes_first(self):
        # Apart is ahead of NoTie; a web that is not joined lies in no cube, and that is NoCube.
        self.refused(Apart, together.together, LOOSE, 99, None)
        self.refused(Apart, together.with_of, LOOSE, True)
        self.refused(NoTie, together.together, SQUARE, None, 0)
        self.refused(NoTie, together.together, SQUARE, 0, None)
        self.refused(NoCube, lying.addresses_of, LOOSE)
        self.assertEqual(self.refused(NoWeb, webs.web_of, 9, [None]).number, -1)
        self.assertEqual(self.refused(NoWeb, webs.web_of, 8, [(0, 1), None, (0, 0)]).number, 1)
        # A place that is none is refused before the way is looked at, and where no way can be.
        self.refused(NoPlace, webs.way_good, SQUARE, 4, 0, (4, 0))
        self.refused(NoPlace, webs.far_of, LOOSE, 5, 6)
        self.refused(NoPlace, webs.least_way, LOOSE, 6, 6)
        # What the other files refuse: the web ahead of what is asked of it, bits ahead of places.
        self.refused(NoCube, addresses.stretch_of, SQUARE, ((0,),), 4, None)
        self.refused(NoCube, addresses.put_bits, ((0,), (0,)), (1,))
        self.refused(Apart, halves.halves_of, LOOSE, 99)
        self.refused(Apart, halves.left_by, LOOSE, (6,))
        self.refused(NoCube, tallied.bit_of, LOOSE, 99)
        self.refused(NoCube, tallied.from_place, LOOSE, 6)
        self.refused(NoCube, tallied.first_addresses, LOOSE, 13)
        self.refused(NoCube, drawn.drawn_by, LOOSE, None)
        self.refused(Apart, middles.middles_of, LOOSE, None, 6, 6)
        self.refused(Apart, middles.nearest_of, LOOSE, [])
        self.refused(NoCube, middles.filled_bits, ((0,) * 6, (0,) * 6))
        # What there would be too many of is refused behind all that is handed in for what it isn't.
        self.refused(NoPlace, made.joined_at, CUBE, 0, CUBE, 8)
        self.refused(NoPlace, made.doubled, CUBE, (8,))
        self.refused(NoLine, made.doubled_bits, ((0,) * 12,), (1,))
        self.refused(NoCube, made.pairs_bits, ((0,) * 12,), ((0,) * 13,))
        self.refused(NoLine, Desk().say, "fresh 9 9")


if __name__ == "__main__":
    unittest.main()
