"""Points 0.2 to 0.4, over all that the program tells: nothing is changed, answers stay, kinds of things."""

import unittest

from cubewebs import lying, together, webs
from cubewebs.errors import Apart, CubeError, NoCube, NoPlace, NoTie, NoWeb
from samples import CUBE, JUNK, Case, full_web, path_web, ring_web, two_sided_web, web

SQUARE = ring_web(4)
LOOSE = web(6, (0, 1), (1, 2), (0, 2), (3, 4))
ASKED = [(1, ()), SQUARE, CUBE, full_web(4), two_sided_web(2, 3), ring_web(7), path_web(8)]


def questions(asked):
    """One question for each function of the interface, each as a tuple of it and what is handed in."""
    last = asked[0] - 1
    listed = [
        (webs.web_good, asked), (webs.web_of, asked[0], list(asked[1])), (webs.near_of, asked, last),
        (webs.far_of, asked, 0, last), (webs.far_table, asked), (webs.is_joined, asked),
        (webs.least_way, asked, 0, last), (webs.ways_many, asked, 0, last), (webs.between, asked, 0, last),
        (webs.way_good, asked, 0, last, (0, last)), (webs.renamed, asked, tuple(reversed(range(asked[0])))),
        (together.groups_of, asked), (together.break_good, asked, (0, 1, 5)), (together.first_break, asked),
        (together.odd_good, asked, (0, 1, 2)), (together.odd_ring, asked), (together.sides_of, asked),
        (lying.paper_good, asked, ("odd", (0, 1, 2))), (lying.paper_of, asked), (lying.lies, asked),
    ]
    if asked[1]:
        listed += [(together.together, asked, 0, len(asked[1]) - 1), (together.with_of, asked, len(asked[1]) - 1)]
    if lying.lies(asked):
        listed.append((lying.addresses_of, asked))
    return listed


class AskedTest(Case):
    def test_the_same_question_has_the_same_answer_whatever_was_asked_in_between(self):
        first = [repr(self.ask(*question)) for asked in ASKED for question in questions(asked)]
        again = [[repr(self.ask(*question)) for question in reversed(questions(asked))] for asked in reversed(ASKED)]
        self.assertEqual(first, [told for row in reversed(again) for told in reversed(row)])

    def test_refusals_in_between_change_nothing(self):
        first = [repr(self.ask(*question)) for asked in ASKED for question in questions(asked)]
        for asked in ASKED:
            for thing in JUNK[:30]:
                self.refused(NoPlace, webs.near_of, asked, thing)
                self.refused(NoPlace, webs.renamed, asked, [thing])
                self.refused(NoWeb, webs.web_of, asked[0], [thing])
                self.refused(NoTie, together.with_of, asked, thing)
                self.refused(Apart, together.groups_of, LOOSE)
                self.refused(NoCube, lying.addresses_of, LOOSE)
        again = [repr(self.ask(*question)) for asked in ASKED for question in questions(asked)]
        self.assertEqual(first, again)

    def test_told_lists_and_those_within_are_the_askers_own(self):
        for asked in ASKED:
            for question in questions(asked):
                due = repr(self.ask(*question))
                got = self.ask(*question)
                if isinstance(got, list):
                    for row in got:
                        if isinstance(row, list):
                            row.append("spoilt")
                    got.append("spoilt")
                    self.assertEqual(repr(self.ask(*question)), due)

    def test_equal_webs_have_equal_answers(self):
        for asked in ASKED:
            other = (asked[0], tuple((a, b) for a, b in list(asked[1])))
            self.assertEqual([repr(self.ask(*question)) for question in questions(asked)],
                             [repr(self.ask(*question)) for question in questions(other)])

    def test_what_is_told_may_be_handed_in_again(self):
        for asked in ASKED:
            made = self.ask(webs.web_of, asked[0], list(asked[1]))
            self.told(True, webs.web_good, made)
            way = self.ask(webs.least_way, made, 0, asked[0] - 1)
            self.told(True, webs.way_good, made, 0, asked[0] - 1, way)
            self.told(True, webs.web_good, self.ask(webs.renamed, made, tuple(reversed(range(asked[0])))))
            found = self.ask(together.first_break, made)
            self.told(found is not None, together.break_good, made, found)
            ring = self.ask(together.odd_ring, made)
            self.told(ring is not None, together.odd_good, made, ring)
            self.told(True, lying.paper_good, made, self.ask(lying.paper_of, made))

    def test_lists_handed_in_as_whatever_stay_as_they_are(self):
        inner = [0, 1]
        thing = ("odd", [inner, {"lies": inner}])
        things = [(0, 1), inner]
        for call, handed in [(webs.web_good, (thing,)), (webs.web_good, ([2, [inner]],)),
                             (webs.way_good, (SQUARE, 0, 1, inner)), (together.odd_good, (SQUARE, [inner])),
                             (together.break_good, (SQUARE, inner)), (lying.paper_good, (SQUARE, thing))]:
            self.told(False, call, *handed)
        self.refused(NoWeb, webs.web_of, 3, things)
        self.refused(NoPlace, webs.renamed, (2, ()), inner)
        self.assertEqual((inner, things), ([0, 1], [(0, 1), [0, 1]]))

    def test_answers_are_of_their_kinds(self):
        kinds = {
            "web_good": bool, "web_of": tuple, "near_of": tuple, "far_of": int, "far_table": list, "is_joined": bool,
            "least_way": tuple, "ways_many": int, "between": tuple, "way_good": bool, "renamed": tuple,
            "together": bool, "with_of": list, "groups_of": list, "break_good": bool, "odd_good": bool,
            "paper_good": bool, "paper_of": tuple, "lies": bool, "addresses_of": tuple,
        }
        nones = {"first_break": tuple, "odd_ring": tuple, "sides_of": tuple}
        for asked in ASKED:
            for call, *handed in questions(asked):
                got = self.ask(call, *handed)
                if call.__name__ in kinds:
                    self.assertIs(got.__class__, kinds[call.__name__], call)
                else:
                    self.assertIn(got.__class__, [None.__class__, nones[call.__name__]])

    def test_each_refusal_is_caught_as_a_cube_error_and_a_value_error(self):
        for call, handed in [(webs.web_of, (0, [])), (webs.near_of, (SQUARE, 4)), (together.groups_of, (LOOSE,)),
                             (together.with_of, (SQUARE, 4)), (lying.addresses_of, (LOOSE,))]:
            with self.assertRaises(CubeError):
                call(*handed)
            with self.assertRaises(ValueError):
                call(*handed)

    def test_which_refusal_goes_first(self):
        # Apart is ahead of NoTie; a web that is not joined lies in no cube, and that is NoCube.
        self.refused(Apart, together.together, LOOSE, 99, None)
        self.refused(Apart, together.with_of, LOOSE, True)
        self.refused(NoTie, together.together, SQUARE, None, 0)
        self.refused(NoTie, together.together, SQUARE, 0, None)
        self.refused(NoCube, lying.addresses_of, LOOSE)
        self.assertEqual(self.refused(NoWeb, webs.web_of, 9, [None]).number, -1)
        self.assertEqual(self.refused(NoWeb, webs.web_of, 8, [(0, 1), None, (0, 0)]).number, 1)
        # A place that is none is refused before the way is looked at, and where no way can be.
        self.refused(NoPlace, webs.way_good, SQUARE, 4, 0, (4, 0))
        self.refused(NoPlace, webs.far_of, LOOSE, 5, 6)
        self.refused(NoPlace, webs.least_way, LOOSE, 6, 6)


if __name__ == "__main__":
    unittest.main()
