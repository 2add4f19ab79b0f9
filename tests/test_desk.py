import unittest

from tests.things import WHATEVER, refusal
from twoforone.desk import Desk
from twoforone.errors import NoHeap, NoKind, NoPlace, NoRow, NoSteps, NotJoined, NoWeb, TooGreat
from twoforone.gets import most_at, reached
from twoforone.heaps import steps_from
from twoforone.kinds import web_for
from twoforone.needs import need
from twoforone.texts import read, shown
from twoforone.webs import far

NO_FIGURES = ["", "00", "01", "007", "1000", "0000", "-1", "+1", "1.", "a", "1x", "~", "A", "N"]
QUESTIONS = ["heap", "ties", "steps", "far 0 0", "most 0", "reached", "need 0", "shown"]


def desk_of(*rows):
    desk = Desk()
    for row in rows:
        assert desk.say(row) == "ok", row
    return desk


def state(desk):
    """All that a desk tells, refusals too."""
    told = []
    for row in QUESTIONS + ["far 0 1", "most 1", "need 1"]:
        try:
            told.append(desk.say(row))
        except ValueError as error:
            told.append((type(error).__name__, vars(error)))
    return told


class DeskCase(unittest.TestCase):
    def check_refused(self, desk, row, kind, **fields):
        before = state(desk)
        error = refusal(desk.say, row)
        self.assertIs(type(error), kind, row)
        self.assertEqual(repr(vars(error)), repr(fields), row)
        self.assertEqual(state(desk), before, row)

    def check_shown(self, desk, text):
        self.assertEqual(desk.say("shown"), text)


class Deeds(DeskCase):
    def test_at_first(self):
        desk = Desk()
        self.check_shown(desk, "web 1 ; heap 0")
        self.assertEqual(desk.say("heap"), "0")
        self.assertEqual(desk.say("ties"), "none")
        self.assertEqual(desk.say("need 0"), "1")

    def test_web(self):
        for many in range(1, 9):
            desk = desk_of("row 4", "put 0 4", f"web {many}")
            self.check_shown(desk, f"web {many} ; heap" + " 0" * many)
        for word in ("0", "9", "10", "100", "999"):
            self.check_refused(desk_of("row 4", "put 0 4"), f"web {word}", NoWeb, at=-1)
            self.check_refused(Desk(), f"web {word}", NoWeb, at=-1)

    def test_kinds(self):
        for word, sizes in (("row", range(1, 9)), ("ring", range(3, 9)), ("cube", range(4)), ("full", range(1, 9)),
                            ("star", range(1, 8))):
            for size in range(12):
                desk = desk_of("web 3", "tie 0 2", "put 1 5")
                if size in sizes:
                    self.assertEqual(desk.say(f"{word} {size}"), "ok")
                    web = web_for((word, size))
                    self.check_shown(desk, shown(web, (0,) * web[0]).replace("\n", " ; "))
                else:
                    self.check_refused(desk, f"{word} {size}", NoKind)
            self.check_refused(Desk(), f"{word} 999", NoKind)

    def test_tie(self):
        desk = desk_of("web 4", "put 1 7", "tie 2 1")
        self.check_shown(desk, "web 4 ; tie 1 2 ; heap 0 7 0 0")
        self.assertEqual(desk.say("tie 0 3"), "ok")
        self.check_shown(desk, "web 4 ; tie 0 3 ; tie 1 2 ; heap 0 7 0 0")
        for row in ("tie 0 3", "tie 3 0", "tie 1 2", "tie 2 1", "tie 0 0", "tie 3 3"):
            self.check_refused(desk, row, NoWeb, at=2)
        for row in ("tie 0 4", "tie 4 0", "tie 4 4", "tie 999 1", "tie 8 8"):
            self.check_refused(desk, row, NoPlace)
        self.check_refused(Desk(), "tie 0 0", NoWeb, at=0)
        self.check_refused(Desk(), "tie 0 1", NoPlace)
        self.check_refused(desk_of("full 8"), "tie 7 0", NoWeb, at=28)

    def test_cut(self):
        desk = desk_of("ring 4", "put 1 7", "cut 2 1")
        self.check_shown(desk, "web 4 ; tie 0 1 ; tie 0 3 ; tie 2 3 ; heap 0 7 0 0")
        self.assertEqual(desk.say("cut 0 3"), "ok")
        self.check_shown(desk, "web 4 ; tie 0 1 ; tie 2 3 ; heap 0 7 0 0")
        for row in ("cut 0 3", "cut 3 0", "cut 1 2", "cut 0 0", "cut 1 3"):
            self.check_refused(desk, row, NoWeb, at=2)
        for row in ("cut 0 4", "cut 4 0", "cut 4 4", "cut 999 1"):
            self.check_refused(desk, row, NoPlace)
        self.check_refused(Desk(), "cut 0 0", NoWeb, at=0)

    def test_put(self):
        desk = desk_of("row 3", "put 1 7", "put 0 2", "put 1 1", "put 2 0")
        self.assertEqual(desk.say("heap"), "2 8 0")
        self.assertEqual(desk.say("put 2 290"), "ok")
        self.assertEqual(desk.say("heap"), "2 8 290")
        for row in ("put 0 1", "put 1 1", "put 2 1", "put 2 999"):
            self.check_refused(desk, row, NoHeap)
        self.assertEqual(desk.say("put 0 0"), "ok")
        self.assertEqual(desk.say("heap"), "2 8 290")
        for row in ("put 3 1", "put 999 999", "put 8 0", "put 3 301"):
            self.check_refused(desk, row, NoPlace)
        self.check_refused(Desk(), "put 0 301", NoHeap)
        self.assertEqual(desk_of("put 0 300").say("heap"), "300")

    def test_step(self):
        desk = desk_of("row 3", "put 0 5", "step 0 1", "step 0 1")
        self.assertEqual(desk.say("heap"), "1 2 0")
        self.assertEqual(desk.say("step 1 2"), "ok")
        self.assertEqual(desk.say("heap"), "1 0 1")
        desk = desk_of("row 3", "put 0 1", "put 1 2")
        for row in ("step 0 1", "step 0 2", "step 2 1", "step 1 1", "step 2 0"):
            self.check_refused(desk, row, NoSteps, at=0)
        for row in ("step 0 3", "step 3 0", "step 3 3", "step 1 999"):
            self.check_refused(desk, row, NoPlace)
        self.assertEqual(desk.say("step 1 0"), "ok")
        self.assertEqual(desk.say("heap"), "2 0 0")

    def test_answers_are_texts(self):
        desk = Desk()
        for row in ("web 3", "row 3", "tie 0 2", "cut 0 2", "put 0 4", "step 0 1", "back"):
            told = desk.say(row)
            self.assertIs(type(told), str)
            self.assertEqual(told, "ok")


class Back(DeskCase):
    ROWS = ["web 3", "tie 0 1", "tie 2 1", "put 0 6", "step 0 1", "step 0 1", "cut 1 2", "put 2 0", "ring 5", "star 3",
            "put 0 9",
            "full 4", "cube 2", "row 4", "web 2"]

    def test_through_several_deeds(self):
        desk = Desk()
        states = [state(desk)]
        for row in self.ROWS:
            self.assertEqual(desk.say(row), "ok")
            states.append(state(desk))
        for before in reversed(states[:-1]):
            self.assertEqual(desk.say("back"), "ok")
            self.assertEqual(state(desk), before)
        self.check_refused(desk, "back", NoRow)
        self.check_refused(desk, "back", NoRow)

    def test_none_stands(self):
        self.check_refused(Desk(), "back", NoRow)
        desk = desk_of("web 3", "back")
        self.check_refused(desk, "back", NoRow)
        self.check_shown(desk, "web 1 ; heap 0")

    def test_back_itself_is_not_undone(self):
        desk = desk_of("web 3", "put 0 1", "put 1 1", "back", "back")
        self.assertEqual(desk.say("heap"), "0 0 0")
        self.assertEqual(desk.say("back"), "ok")
        self.assertEqual(desk.say("heap"), "0")
        self.check_refused(desk, "back", NoRow)

    def test_deeds_behind_a_back(self):
        desk = desk_of("web 3", "put 0 1", "back", "put 1 2", "put 2 3", "back", "back")
        self.assertEqual(desk.say("heap"), "0 0 0")
        desk = desk_of("web 3", "put 0 1", "back", "put 1 2", "put 2 3", "back")
        self.assertEqual(desk.say("heap"), "0 2 0")

    def test_what_was_refused_and_questions_are_no_deeds(self):
        desk = desk_of("row 3", "put 0 4")
        for row, kind in (("put 0 999", NoHeap), ("step 1 0", NoSteps), ("tie 0 1", NoWeb), ("web 0", NoWeb),
                          ("ring 2", NoKind),
                          ("put 3 0", NoPlace), ("nothing", NoRow), (None, NoRow)):
            self.assertIs(type(refusal(desk.say, row)), kind)
        state(desk)
        self.assertEqual(desk.say("back"), "ok")
        self.assertEqual(desk.say("heap"), "0 0 0")
        self.check_shown(desk, "web 3 ; tie 0 1 ; tie 1 2 ; heap 0 0 0")
        self.assertEqual(desk.say("back"), "ok")
        self.check_refused(desk, "back", NoRow)

    def test_a_deed_that_leaves_all_as_it_was_is_undone_too(self):
        desk = desk_of("web 2", "put 0 3", "put 0 0", "back")
        self.assertEqual(desk.say("heap"), "3 0")
        desk = desk_of("put 0 3", "web 1", "web 1", "back")
        self.assertEqual(desk.say("heap"), "0")
        self.assertEqual(desk.say("back"), "ok")
        self.assertEqual(desk.say("heap"), "3")


class Questions(DeskCase):
    def test_written_out(self):
        desk = desk_of("row 4", "put 0 5", "put 2 2")
        for row, told in (
            ("heap", "5 0 2 0"), ("ties", "0-1 1-2 2-3"), ("steps", "0>1 2>1 2>3"), ("far 0 3", "3"), ("far 2 2", "0"),
            ("far 3 1", "2"), ("most 0", "5"), ("most 1", "3"), ("most 3", "1"), ("reached", "0 1 2 3"),
            ("need 0", "8"),
            ("need 1", "5"), ("shown", "web 4 ; tie 0 1 ; tie 1 2 ; tie 2 3 ; heap 5 0 2 0"),
        ):
            answer = desk.say(row)
            self.assertIs(type(answer), str)
            self.assertEqual(answer, told, row)

    def test_none(self):
        desk = desk_of("web 3")
        for row, told in (
            ("heap", "0 0 0"), ("ties", "none"), ("steps", "none"), ("far 0 1", "none"), ("far 1 1", "0"),
            ("most 2", "0"),
            ("reached", "none"), ("shown", "web 3 ; heap 0 0 0"),
        ):
            self.assertEqual(desk.say(row), told, row)
        desk = desk_of("web 3", "tie 0 1", "put 2 4", "put 1 1")
        for row, told in (("ties", "0-1"), ("steps", "none"), ("far 0 2", "none"), ("most 0", "0"), ("reached", "1 2")):
            self.assertEqual(desk.say(row), told, row)

    def test_on_several_desks(self):
        for rows in (
            ("ring 6", "put 3 8"), ("full 5", "put 0 2", "put 4 3"), ("star 5", "put 1 3", "put 2 3"),
            ("cube 2", "put 3 4"),
            ("web 5", "tie 0 4", "tie 3 4", "put 0 5", "put 1 2"), ("web 1", "put 0 12"), ("row 6", "put 5 12"),
        ):
            desk = desk_of(*rows)
            web, heap = read(desk.say("shown").replace(" ; ", "\n"))
            self.assertEqual(desk.say("heap"), " ".join(str(stones) for stones in heap))
            self.assertEqual(desk.say("ties"), " ".join(f"{a}-{b}" for a, b in web[1]) or "none")
            self.assertEqual(desk.say("steps"), " ".join(f"{a}>{b}" for a, b in steps_from(web, heap)) or "none")
            self.assertEqual(desk.say("reached"), " ".join(str(place) for place in reached(web, heap)) or "none")
            for place in range(web[0]):
                self.assertEqual(desk.say(f"most {place}"), str(most_at(web, heap, place)))
                for other in range(web[0]):
                    told = far(web, place, other)
                    self.assertEqual(desk.say(f"far {place} {other}"), "none" if told is None else str(told))
                if rows[0] != "web 5":
                    self.assertEqual(desk.say(f"need {place}"), str(need(web, place, 1)))

    def test_refused_as_the_stages_refuse(self):
        desk = desk_of("row 7", "put 0 13")
        for row in ("far 0 7", "far 7 0", "far 999 0", "most 7", "need 7", "most 999", "need 999"):
            self.check_refused(desk, row, NoPlace)
        for row in ("most 0", "most 6", "reached"):
            self.check_refused(desk, row, TooGreat, many=13, most=12)
        self.check_refused(desk, "need 0", TooGreat, many=7, most=6)
        self.check_refused(desk_of("web 2"), "need 0", NotJoined)
        self.check_refused(desk_of("web 8"), "need 0", NotJoined)
        self.check_refused(desk_of("web 8"), "need 8", NoPlace)
        self.check_refused(desk_of("full 8"), "need 0", TooGreat, many=8, most=6)
        self.check_refused(desk_of("put 0 300"), "most 0", TooGreat, many=300, most=12)

    def test_questions_change_nothing(self):
        desk = desk_of("row 4", "put 0 5", "put 2 2")
        before = state(desk)
        for row in QUESTIONS:
            desk.say(row)
            self.assertEqual(state(desk), before)


class Rows(DeskCase):
    def test_what_is_no_text(self):
        for thing in WHATEVER + [["heap"], ("heap",), {"heap": 0}]:
            if not isinstance(thing, str):
                before = repr(thing)
                self.check_refused(desk_of("row 3", "put 0 4"), thing, NoRow)
                self.assertEqual(repr(thing), before)

    def test_rows_that_are_none(self):
        desk = desk_of("row 3", "put 0 4")
        rows = ["", " ", "  ", "ok", "none", "N", "3", "0 1", "Heap", "HEAP", "heaps", "tree 3", "kind 3", "web N",
                "tie A B",
                "reach 0 1", "worst 0", "undo", "back back", "shown ", "heap\n", "heap\nheap", "heap;",
                "put 0 1 ; put 0 1"]
        rows += [thing for thing in WHATEVER if isinstance(thing, str) and thing != "web 1"]
        for row in rows:
            self.check_refused(desk, row, NoRow)

    def test_blanks_and_words_more_or_fewer(self):
        desk = desk_of("row 3", "put 0 4")
        good = ["web 3", "row 3", "ring 3", "cube 2", "full 3", "star 3", "tie 0 2", "cut 0 1", "put 0 1", "step 0 1",
                "back",
                "heap", "ties", "steps", "far 0 1", "most 0", "reached", "need 0", "shown"]
        for row in good:
            for bad in (" " + row, row + " ", row.replace(" ", "  ", 1) if " " in row else row + "  ", row + " 1",
                        row + " x",
                        row.upper(), row.replace(" ", ""), row + "\n", row.replace(" ", "\n")):
                if bad != row:
                    self.check_refused(desk, bad, NoRow)
            if " " in row:
                self.check_refused(desk, row.rpartition(" ")[0], NoRow)
                self.check_refused(desk, row.split(" ")[0], NoRow)

    def test_numbers_that_are_not_so_written(self):
        desk = desk_of("row 3", "put 0 4")
        for word in NO_FIGURES:
            for row in ("web {}", "row {}", "ring {}", "cube {}", "full {}", "star {}", "tie {} 2", "tie 0 {}",
                        "cut {} 1",
                        "cut 0 {}", "put {} 1", "put 0 {}", "step {} 1", "step 0 {}", "far {} 1", "far 0 {}",
                        "most {}", "need {}"):
                self.check_refused(desk, row.format(word), NoRow)

    def test_ahead_of_all_else(self):
        desk = desk_of("web 3", "put 0 300")
        for row in ("tie 9 9 9", "put 9 9999", "put 9 01", "step 9 9 ", "far 9 09", "most 9 9", "need 0009", "web 00",
                    "row 0000",
                    "reached 0", "ring 02", "cut 9"):
            self.check_refused(desk, row, NoRow)


class Desks(DeskCase):
    def test_two_desks_have_nothing_in_common(self):
        one = desk_of("row 3", "put 0 4")
        other = Desk()
        self.check_shown(other, "web 1 ; heap 0")
        self.check_refused(other, "back", NoRow)
        other.say("ring 3")
        other.say("put 2 9")
        other.say("back")
        self.check_shown(one, "web 3 ; tie 0 1 ; tie 1 2 ; heap 4 0 0")
        one.say("step 0 1")
        self.check_shown(other, "web 3 ; tie 0 1 ; tie 0 2 ; tie 1 2 ; heap 0 0 0")
        other.say("back")
        self.check_refused(other, "back", NoRow)
        self.assertEqual(one.say("back"), "ok")
        self.check_shown(one, "web 3 ; tie 0 1 ; tie 1 2 ; heap 4 0 0")

    def test_answers_hang_on_the_deeds_that_stand_alone(self):
        plain = desk_of("web 4", "tie 0 1", "tie 1 2", "put 0 6", "step 0 1")
        roundabout = desk_of(
            "full 8", "back", "web 4", "tie 0 3", "back", "tie 0 1", "put 3 9", "put 3 1", "back", "back",
            "tie 1 2", "put 0 6", "step 0 1", "step 0 1", "back")
        for row in ("tie 0 1", "most 9", "", "back 1", "put 0 999", "ring 1"):
            refusal(roundabout.say, row)
        state(roundabout)
        self.assertEqual(state(roundabout), state(plain))
        for _ in range(5):
            self.assertEqual((plain.say("back"), roundabout.say("back")), ("ok", "ok"))
            self.assertEqual(state(roundabout), state(plain))
        self.check_refused(plain, "back", NoRow)
        self.check_refused(roundabout, "back", NoRow)

    def test_many_desks_at_once(self):
        desks = [Desk() for _ in range(8)]
        for turn in range(1, 8):
            for at, desk in enumerate(desks):
                desk.say(f"web {(turn * (at + 1)) % 8 + 1}")
                desk.say(f"put 0 {at + turn}")
        for at, desk in enumerate(desks):
            many = (7 * (at + 1)) % 8 + 1
            self.check_shown(desk, f"web {many} ; heap {at + 7}" + " 0" * (many - 1))


if __name__ == "__main__":
    unittest.main()
