import unittest

from tests import manners
from tests.manners import HEAP, WEB, Question
from tests.things import BARE, FULL, GREAT_WEBS, MIXED, ROW, WHATEVER, heaps_up_to, refusal, webs_up_to
from twoforone.errors import NoText
from twoforone.texts import read, shown

THREE = (3, ((0, 1), (1, 2)))
GOOD = "web 3\ntie 0 1\ntie 1 2\nheap 4 0 10"
# No number is written so.
NO_FIGURES = ["", " ", "00", "01", "007", "1000", "0000", "-1", "+1", "1.", "1_0", "a", "x1", "1x", "~", "0x1", "1e2",
              "!", "None"]


class Shown(unittest.TestCase):
    def test_written_out(self):
        for web, heap, text in (
            ((1, ()), (0,), "web 1\nheap 0"), ((1, ()), (300,), "web 1\nheap 300"), (THREE, (4, 0, 10), GOOD),
            ((2, ()), (1, 2), "web 2\nheap 1 2"), (MIXED, (1, 2, 3, 4, 5, 6, 7, 8),
             "web 8\ntie 0 5\ntie 1 4\ntie 1 7\ntie 4 7\ntie 5 6\nheap 1 2 3 4 5 6 7 8"),
        ):
            told = shown(web, heap)
            self.assertIs(type(told), str)
            self.assertEqual(told, text)
            self.assertEqual(repr(read(text)), repr((web, heap)))

    def test_one_behind_the_other(self):
        for web in webs_up_to(4):
            for heap in heaps_up_to(web[0], 2) + [(300,) + (0,) * (web[0] - 1), (0,) * (web[0] - 1) + (100,)]:
                told = read(shown(web, heap))
                self.assertIs(type(told), tuple)
                self.assertEqual(repr(told), repr((web, heap)))
        for web in GREAT_WEBS:
            for heap in ((0,) * 8, (37,) * 8, (0, 300) + (0,) * 6, (9, 10, 11, 99, 100, 1, 0, 20)):
                text = shown(web, heap)
                self.assertEqual(read(text), (web, heap))
                self.assertEqual(shown(*read(text)), text)
                self.assertEqual(len(text.split("\n")), len(web[1]) + 2)


class Read(unittest.TestCase):
    def check_refused(self, number, text):
        error = refusal(read, text)
        self.assertIs(type(error), NoText, text)
        self.assertIs(type(error.row), int)
        self.assertEqual(error.row, number, text)

    def test_no_text(self):
        for thing in WHATEVER + [[GOOD], (GOOD,), {GOOD: 1}]:
            if not isinstance(thing, str):
                self.check_refused(0, thing)

    def test_texts_that_write_nothing(self):
        for thing in WHATEVER:
            if isinstance(thing, str):
                self.check_refused(2 if thing == "web 1" else 1, thing)
        self.check_refused(1, "")
        self.check_refused(1, "\n")
        self.check_refused(1, "\nweb 1\nheap 0")

    def test_the_first_row(self):
        for row in ("web", "web ", "web 0", "web 9", "web 10", "web 100", "web 3 ", " web 3", "web  3", "web 3 3",
                    "Web 3",
                    "web3", "webs 3", "tie 0 1", "heap 0 0 0", "3", "web 03", "web 003", "web 0003", "web -3",
                    "web 3.", "web x"):
            self.check_refused(1, row)
            self.check_refused(1, row + "\ntie 0 1\ntie 1 2\nheap 4 0 10")
            self.check_refused(1, row + "\nnothing")

    def test_numbers_that_are_not_so_written(self):
        for word in NO_FIGURES:
            self.check_refused(1, f"web {word}\nheap 0 0 0")
            self.check_refused(2, f"web 3\ntie {word} 1\nheap 0 0 0")
            self.check_refused(2, f"web 3\ntie 0 {word}\nheap 0 0 0")
            self.check_refused(3, f"web 3\ntie 0 1\nheap {word} 0 0")
            self.check_refused(3, f"web 3\ntie 0 1\nheap 0 {word} 0")
            self.check_refused(3, f"web 3\ntie 0 1\nheap 0 0 {word}")

    def test_each_number_of_places(self):
        for many in range(1, 9):
            self.assertEqual(read(f"web {many}\nheap" + " 0" * many), ((many, ()), (0,) * many))
            self.check_refused(2, f"web {many}\nheap" + " 0" * (many + 1))
            self.check_refused(2, f"web {many}\nheap" + " 0" * (many - 1))

    def test_ties_that_are_none(self):
        for row in ("tie 0 0", "tie 1 0", "tie 2 1", "tie 0 3", "tie 3 4", "tie 0 999", "tie 0", "tie", "tie 0 1 2",
                    "tie 0 1 ",
                    " tie 0 1", "tie  0 1", "tie 0  1", "Tie 0 1", "ties 0 1", "tie 0-1", "tie 0,1", "", " ", "web 3",
                    "x"):
            self.check_refused(2, f"web 3\n{row}\nheap 0 0 0")
            self.check_refused(2, f"web 3\n{row}\nnothing")
            self.check_refused(3, f"web 3\ntie 0 1\n{row}\nheap 0 0 0")

    def test_ties_that_do_not_rise(self):
        for rows, number in (
            (("0 1", "0 1"), 3), (("0 2", "0 1"), 3), (("1 2", "0 1"), 3), (("0 1", "0 2", "0 2"), 4),
            (("0 1", "1 2", "0 2"), 4), (("0 2", "1 2", "1 2"), 4), (("1 2", "0 2", "0 1"), 3),
        ):
            self.check_refused(number, "\n".join(["web 3"] + ["tie " + row for row in rows] + ["heap 0 0 0"]))
            self.check_refused(number, "\n".join(["web 3"] + ["tie " + row for row in rows]))

    def test_heaps_that_are_none(self):
        for row in ("heap", "heap ", "heap 0", "heap 0 0", "heap 0 0 0 0", "heap 301 0 0", "heap 100 100 101",
                    "heap 0 0 999",
                    "heap 0 0 0 ", " heap 0 0 0", "heap  0 0 0", "heap 0 0  0", "Heap 0 0 0", "heaps 0 0 0",
                    "heap 0,0,0",
                    "heap 00 0 0", "heap 0 01 0", "heap -1 0 0", "heap 0 0 0300", "heap 1000 0 0"):
            self.check_refused(2, f"web 3\n{row}")
            self.check_refused(2, f"web 3\n{row}\nmore")
            self.check_refused(3, f"web 3\ntie 0 2\n{row}")
        self.assertEqual(read("web 3\nheap 100 100 100"), ((3, ()), (100, 100, 100)))
        self.assertEqual(read("web 3\nheap 300 0 0"), ((3, ()), (300, 0, 0)))

    def test_the_heaps_row_lacks(self):
        self.check_refused(2, "web 3")
        self.check_refused(3, "web 3\ntie 0 1")
        self.check_refused(4, "web 3\ntie 0 1\ntie 1 2")
        self.check_refused(30, shown(FULL, (0,) * 8).rpartition("\n")[0])
        self.check_refused(2, "web 3\n")
        self.check_refused(3, "web 3\ntie 0 1\n")

    def test_rows_behind_the_heaps(self):
        for more in ("", "x", "heap 4 0 10", "tie 1 2", "tie 0 1", "web 3", " ", "\n", "\n\n"):
            self.check_refused(5, GOOD + "\n" + more)
            self.check_refused(3, "web 3\nheap 0 0 0\n" + more)
        self.check_refused(3, "web 3\nheap 0 0 0\ntie 0 1\nheap 0 0 0")
        self.check_refused(2, "web 3\nheap 0 0\ntie 0 1")

    def test_blanks_and_line_feeds_elsewhere(self):
        for at, sign in enumerate(GOOD):
            row = GOOD[:at].count("\n") + 1
            if sign == " ":
                self.check_refused(row, GOOD[:at] + " " + GOOD[at:])
                self.check_refused(row, GOOD[:at] + GOOD[at + 1:])
                self.check_refused(row, GOOD[:at] + "\n" + GOOD[at + 1:])
            if sign == "\n":
                self.check_refused(row, GOOD[:at] + " " + GOOD[at:])
                self.check_refused(row + 1, GOOD[:at + 1] + " " + GOOD[at + 1:])
                self.check_refused(row + 1, GOOD[:at] + "\n" + GOOD[at:])

    def test_the_first_row_that_is_wrong(self):
        rows = GOOD.split("\n")
        for at in range(4):
            for behind in range(at, 4):
                spoilt = list(rows)
                spoilt[at] = rows[at] + " "
                spoilt[behind] = rows[behind] + " "
                self.check_refused(at + 1, "\n".join(spoilt))


class TextManners(manners.Manners):
    questions = (
        Question(shown, (WEB, HEAP), [(THREE, (4, 0, 10)), (BARE, (1,) * 8), ((1, ()), (0,)), (ROW, (0,) * 8)]),
    )


if __name__ == "__main__":
    unittest.main()
