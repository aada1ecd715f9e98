"""Stage 10, texts: 10.1."""

import unittest

from cubewebs.errors import NoText
from cubewebs.texts import web_read, web_shown
from cubewebs.webs import web_good
from samples import CUBE, GREAT, JUNK, Case, all_webs, full_web, path_web, ring_web, web

EVERY = list(all_webs(4)) + [asked for asked in all_webs(5) if asked[0] == 5][::5] + GREAT

ONE = "web 1 0"
SQUARE = "web 4 4\ntie 0 1\ntie 0 3\ntie 1 2\ntie 2 3"

# What is no number written as it ought to be, though some other reader would take it for one.
NO_NUMBERS = ["", "00", "01", "007", "-0", "-1", "+1", "1.0", "1e0", "0x1", "1_0", "one", "a", "1a", "a1", ".", "1,",
              "1;", "0" * 20, "0" * 21, "1" * 21, "9" * 90, "\n", "\t", "\t1", "1\t", "None", "True", "(1", "l", "O",
              "~", "-", "1-2", "'1'", '"1"', "1\r", "\x0b1", "\u0661", "\u00b2", "\uff11", "1\u00a0"]


def brute_shown(asked):
    rows = [("web", asked[0], len(asked[1]))] + [("tie", a, b) for a, b in asked[1]]
    return "\n".join(" ".join(map(str, row)) for row in rows)


class TextCase(Case):
    def no_text(self, row, thing):
        refusal = self.refused(NoText, web_read, thing)
        if repr(refusal.row) != repr(row):
            self.fail(f"{thing!r}: row {refusal.row!r}, not {row}")


class ShownTest(TextCase):
    def test_by_hand(self):
        self.told("web 1 0", web_shown, (1, ()))
        self.told("web 8 0", web_shown, (8, ()))
        self.told("web 2 1\ntie 0 1", web_shown, path_web(2))
        self.told(SQUARE, web_shown, ring_web(4))
        self.assertEqual(len(web_shown(full_web(8)).split("\n")), 29)
        self.assertEqual(web_shown(full_web(8)).split("\n")[0], "web 8 28")

    def test_over_many_webs(self):
        for asked in EVERY:
            due = brute_shown(asked)
            self.told(due, web_shown, asked)
            self.told(asked, web_read, due)
            self.told(True, web_good, self.ask(web_read, due))


class NoTextTest(TextCase):
    def test_what_is_no_text_is_row_0(self):
        for thing in JUNK + [[ONE], (ONE,), {ONE: ONE}, (1, ()), ["web 1 0"], ("web", "1", "0"), b"web 1 0"]:
            self.no_text(1 if isinstance(thing, str) else 0, thing)

    def test_the_text_without_signs_has_one_row(self):
        self.no_text(1, "")
        self.no_text(1, "\n")
        self.no_text(1, "\n" + ONE)
        self.no_text(2, ONE + "\n")

    def test_first_rows_that_are_wrong(self):
        wrong = ["web", "web 1", "web 1 0 0", "web 1 0 ", " web 1 0", "web  1 0", "web 1  0", "web 1 0  ", "Web 1 0",
                 "WEB 1 0", "webs 1 0", "we 1 0", "tie 1 0", "tie 0 1", "1 0", "web1 0", "web 10", "web\t1\t0",
                 "1 0 web",
                 "web 1 0;", "web 1, 0", "web 0 0", "web 9 0", "web 10 0", "web 64 0", "web 99999999999999999999 0",
                 "web -1 0", "web 1 -1", "web 1 0 tie", "web 2 1 tie 0 1", "web 2 1 ; tie 0 1", "web a b", " ", "  ",
                 "web  ", "web 1 ", "web  0", "~", "web 4 4 tie 0 1"]
        for row in wrong:
            self.no_text(1, row)
            self.no_text(1, row + "\n")
            self.no_text(1, row + "\ntie 0 1")
            self.no_text(1, row + "\ntie 5 5\ntie 1 0")
        for word in NO_NUMBERS:
            self.no_text(1, f"web {word} 0")
            self.no_text(1, f"web {word} 0\ntie 0 1")
            self.no_text(1, f"web 1 {word}")
            self.no_text(1, f"web 2 {word}\ntie 0 1")

    def test_places_from_1_to_8(self):
        for many in range(1, 9):
            self.told((many, ()), web_read, f"web {many} 0")
        for many in [0, 9, 10, 11, 18, 80, 10 ** 19, 10 ** 20 - 1, 10 ** 20, 10 ** 39]:
            self.no_text(1, f"web {many} 0")
            self.no_text(1, f"web {many} 1\ntie 0 1")

    def test_tie_rows_that_are_wrong_at_each_row(self):
        rows = SQUARE.split("\n")
        wrong = ["", "tie", "tie 0", "tie 2", "tie 2 3 3", "tie 2 3 ", " tie 2 3", "tie  2 3", "tie 2  3", "Tie 2 3",
                 "ties 2 3", "web 2 3", "web 4 4", "2 3", "tie 23", "tie 2-3", "tie\t2\t3", "tie 3 2", "tie 3 3",
                 "tie 2 4",
                 "tie 3 4", "tie 4 5", "tie 0 99999999999999999999", "tie 99999999999999999999 3", "tie 2 3 tie 2 3",
                 " ", "  ", "~", "none", "tie 2 3;", "tie -1 3", "tie 2, 3"]
        for at in range(1, 5):
            for row in wrong:
                self.no_text(at + 1, "\n".join(rows[:at] + [row] + rows[at + 1:]))
                self.no_text(at + 1, "\n".join(rows[:at] + [row]))
                self.no_text(at + 1, "\n".join(rows[:at] + [row] + rows[at:]))
                self.no_text(at + 1, "\n".join(rows[:at] + [row] * 3))
            for word in NO_NUMBERS:
                self.no_text(at + 1, "\n".join(rows[:at] + [f"tie {word} 3"] + rows[at + 1:]))
                self.no_text(at + 1, "\n".join(rows[:at] + [f"tie 0 {word}"] + rows[at + 1:]))

    def test_each_tie_is_greater_than_the_one_ahead(self):
        self.no_text(3, "web 4 2\ntie 0 1\ntie 0 1")
        self.no_text(3, "web 4 2\ntie 1 2\ntie 0 3")
        self.no_text(3, "web 4 2\ntie 0 3\ntie 0 2")
        self.no_text(4, "web 4 4\ntie 0 1\ntie 0 3\ntie 0 2\ntie 0 1")
        self.told(web(4, (0, 3), (1, 2)), web_read, "web 4 2\ntie 0 3\ntie 1 2")
        rows = brute_shown(full_web(8)).split("\n")
        for at in range(2, 29):
            swapped = rows[:at - 1] + [rows[at], rows[at - 1]] + rows[at + 1:]
            self.no_text(at + 1, "\n".join(swapped))
            self.no_text(at + 1, "\n".join(rows[:at] + [rows[at - 1]] + rows[at + 1:]))

    def test_places_of_the_web_alone(self):
        for many in range(2, 9):
            self.told(web(many, (0, many - 1)), web_read, f"web {many} 1\ntie 0 {many - 1}")
            self.no_text(2, f"web {many} 1\ntie 0 {many}")
            self.no_text(2, f"web {many} 1\ntie {many - 1} {many}")
            self.no_text(2, f"web {many} 1\ntie {many - 1} {many - 1}")
            self.no_text(2, f"web {many} 1\ntie {many - 1} 0")
        self.no_text(2, "web 1 1\ntie 0 0")
        self.no_text(2, "web 1 1\ntie 0 1")

    def test_rows_too_few(self):
        for asked in EVERY:
            rows = brute_shown(asked).split("\n")
            for many in range(1, len(rows)):
                self.no_text(many + 1, "\n".join(rows[:many]))
        self.no_text(2, "web 1 1")
        self.no_text(2, "web 8 29")
        self.no_text(2, "web 1 99999999999999999999")
        self.no_text(3, "web 2 2\ntie 0 1")
        self.no_text(30, brute_shown(full_web(8)).replace("web 8 28", "web 8 29"))
        self.no_text(6, SQUARE.replace("web 4 4", "web 4 5"))

    def test_rows_too_many(self):
        for asked in EVERY:
            text = brute_shown(asked)
            many = len(asked[1]) + 1
            for row in ["", "tie 6 7", "tie 0 1", " ", "web 1 0", "~"]:
                self.no_text(many + 1, text + "\n" + row)
                self.no_text(many + 1, text + "\n" + row + "\n" + row)
        self.no_text(5, SQUARE.replace("web 4 4", "web 4 3"))
        self.no_text(2, SQUARE.replace("web 4 4", "web 4 0"))
        self.no_text(2, "web 2 0\ntie 0 1")

    def test_the_first_wrong_row_goes_ahead_of_rows_too_few(self):
        self.no_text(2, "web 4 4\ntie 1 1")
        self.no_text(3, "web 4 4\ntie 0 1\n")
        self.no_text(3, "web 4 9\ntie 0 1\ntie 0 1\ntie 0 3")
        self.no_text(1, "web 9 9")
        self.no_text(2, "web 1 20\ntie 0 1\ntie 0 1")

    def test_other_signs_between_rows(self):
        self.no_text(1, SQUARE.replace("\n", " ; "))
        self.no_text(1, SQUARE.replace("\n", " "))
        self.no_text(1, SQUARE.replace("\n", ";"))
        self.no_text(2, SQUARE.replace("\n", "\n\n"))
        self.no_text(2, SQUARE.replace("\n", "\n "))
        self.no_text(1, SQUARE.replace("\n", " \n"))
        self.no_text(1, SQUARE.replace("\n", "\r\n"))
        self.no_text(1, " " + SQUARE)
        self.no_text(5, SQUARE + " ")
        self.no_text(6, SQUARE + "\n")
        self.no_text(6, SQUARE + "\n\n")

    def test_long_texts(self):
        self.no_text(1, "~" * 2000)
        self.no_text(1, "\n" * 2000)
        self.no_text(2, "web 1 0" + "\n" * 1990)
        self.no_text(1, " " * 2000)
        self.no_text(1, "web 1 " + "0" * 1990)
        self.no_text(1, "web 1 " + "1" * 1990)
        self.no_text(3, "web 8 28" + "\ntie 0 1" * 240)


class NumbersTest(TextCase):
    def test_figures_at_most_twenty(self):
        self.no_text(2, "web 1 " + "9" * 20)
        self.no_text(1, "web 1 " + "9" * 21)
        self.no_text(2, "web 1 1" + "0" * 19)
        self.no_text(1, "web 1 1" + "0" * 20)
        self.no_text(1, "web 1 0" + "1" * 19)

    def test_nought_is_written_as_one_figure(self):
        self.told((1, ()), web_read, "web 1 0")
        self.told(path_web(2), web_read, "web 2 1\ntie 0 1")
        self.no_text(1, "web 1 00")
        self.no_text(1, "web 01 0")
        self.no_text(2, "web 2 1\ntie 00 1")
        self.no_text(2, "web 2 1\ntie 0 01")

    def test_what_is_told_is_read_again(self):
        for asked in [(1, ()), CUBE, full_web(8)]:
            self.told(asked, web_read, self.ask(web_shown, self.ask(web_read, self.ask(web_shown, asked))))


if __name__ == "__main__":
    unittest.main()
