"""The desk's answers, and lines that are none: points [19] and [20]."""

import random
import unittest

from compared_views import view_of, view_pair
from gridscope import desk as module
from gridscope.desk import Desk
from gridscope.pages import deed_rows
from gridscope.sheet import Sheet
from gridscope.view import View
from plain_steps import put_count
from plain_view import refused, told
from test_view_runs import some_deed

BEGUN = [("text", 0, 0, "first"), ("merge", 1, 1, 2, 2), ("text", 1, 1, "box"), ("screen", 3, 9)]


def some_desk(deeds=BEGUN):
    return Desk(view_of(5, 4, deeds, wide=3))


class Begun(unittest.TestCase):
    def test_fields(self):
        view = View(Sheet())
        desk = Desk(view)
        self.assertIs(desk.view, view)
        self.assertEqual(desk.said, 0)
        self.assertIs(Desk(view=view).view, view)

    def test_the_very_view(self):
        desk = some_desk()
        view = desk.view
        desk.say("text 0 0 new")
        self.assertEqual(view.sheet().text(0, 0), "new")
        self.assertIs(desk.view, view)
        view.do(("caret", 4, 3))
        self.assertEqual(desk.say("caret"), "4 3")

    def test_said(self):
        desk = some_desk()
        for number, line in enumerate(("caret", "no", "", "text 9 9 x", "hit 99 99", "undo", "redo", "redo",
                                       "go up 1", "all 0")):
            desk.say(line)
            self.assertEqual(desk.said, number + 1)

    def test_names_of_the_class(self):
        self.assertEqual(module.Desk.__module__, "gridscope.desk")
        self.assertIn("say", vars(Desk))


class Answers(unittest.TestCase):
    def test_deeds(self):
        for line, deed in (
            ("text 3 2 a text", ("text", 3, 2, "a text")), ("text 0 0 ", ("text", 0, 0, "")),
            ("text 0 0   x ", ("text", 0, 0, "  x ")),
            ("look 0 0 right middle wrap", ("look", 0, 0, "right", "middle", True)),
            ("look 0 0 left top nowrap", ("look", 0, 0, "left", "top", False)),
            ("merge 3 0 2 2", ("merge", 3, 0, 2, 2)), ("part 2 2", ("part", 2, 2)),
            ("size row 0 5", ("size", "row", 0, 5)),
            ("common column 1", ("common", "column", 1)), ("hide row 0 2", ("hide", "row", 0, 2)),
            ("show row 0 2", ("show", "row", 0, 2)),
            ("put column 4 3", ("put", "column", 4, 3)), ("cut row 0 1", ("cut", "row", 0, 1)),
            ("fit column 0", ("fit", "column", 0)),
            ("hold 1 1", ("hold", 1, 1)), ("screen 2 4", ("screen", 2, 4)), ("scroll 1 2", ("scroll", 1, 2)),
            ("caret 4 3", ("caret", 4, 3)),
            ("go down 2", ("go", "down", 2)),
        ):
            desk, view = some_desk(), view_of(5, 4, BEGUN, wide=3)
            self.assertEqual(desk.say(line), "done", line)
            view.do(deed)
            self.assertEqual(told(desk.view), told(view))

    def test_undo_and_redo(self):
        desk = some_desk()
        self.assertEqual([desk.say(line) for line in ("redo", "undo", "undo", "redo", "undo", "undo", "undo", "undo",
                                                      "redo")],
                         ["refused nothingleft", "done", "done", "done", "done", "done", "done",
                          "refused nothingleft", "done"])
        self.assertEqual(desk.view.deeds(), BEGUN[:1])

    def test_screen(self):
        desk = some_desk()
        self.assertEqual(desk.say("screen"), "fir      \n   box   \n         ")
        desk.say("screen 1 3")
        self.assertEqual(desk.say("screen"), "fir")
        self.assertEqual(Desk(view_of(1, 1, wide=2, screen=(2, 3))).say("screen"), "  ~\n~~~")

    def test_hit(self):
        desk = some_desk()
        for line, due in (("hit 0 0", "0 0 1 1"), ("hit 2 8", "1 1 2 2"), ("hit 1 3", "1 1 2 2"),
                          ("hit 2 2", "2 0 1 1"), ("hit 3 0", "refused noplace"),
                          ("hit 0 9", "refused noplace"), ("hit -1 0", "refused noplace"),
                          ("hit 0 -9999999", "refused noplace")):
            self.assertEqual(desk.say(line), due, line)
        desk.say("screen 6 13")
        for line, due in (("hit 5 0", "beyond"), ("hit 0 12", "beyond"), ("hit 4 11", "4 3 1 1"),
                          ("hit 6 0", "refused noplace")):
            self.assertEqual(desk.say(line), due, line)

    def test_places(self):
        desk = some_desk()
        for line, due in (("places 0 0", "0 0 1 3"), ("places 2 2", "1 3 2 6"), ("places 3 0", "none"),
                          ("places 0 3", "none"),
                          ("places 5 0", "refused nocell"), ("places 0 4", "refused nocell"),
                          ("places -1 0", "refused nocell")):
            self.assertEqual(desk.say(line), due, line)
        desk.say("hide row 0 1")
        self.assertEqual((desk.say("places 0 0"), desk.say("places 2 1")), ("none", "0 3 2 6"))

    def test_caret_and_scroll(self):
        desk = some_desk()
        self.assertEqual((desk.say("caret"), desk.say("scroll")), ("0 0", "0 0"))
        desk.say("caret 4 3")
        self.assertEqual((desk.say("caret"), desk.say("scroll")), ("4 3", "2 3"))
        desk.say("caret 2 2")
        self.assertEqual(desk.say("caret"), "1 1")

    def test_steps(self):
        desk = some_desk()
        desk.say("text 0 0 fix")
        self.assertEqual(desk.say("steps"), "1")
        desk.say("text 4 3 unseen")
        self.assertEqual(desk.say("steps"), "0")
        desk.say("undo")
        self.assertEqual(desk.say("steps"), "0")
        desk.say("undo")
        self.assertEqual(desk.say("steps"), "1")
        desk.say("text 9 9 x")
        desk.say("no")
        self.assertEqual(desk.say("steps"), "1")
        # Signs that are put alone, not those that are shifted.
        desk = Desk(view_of(9, 2, [("text", row, 0, "row" + str(row)) for row in range(9)], screen=(5, 6)))
        desk.say("scroll 1 0")
        self.assertEqual(desk.view.steps(), [("shift", 0, 0, 5, 6, 1, 0), ("put", 4, 3, "5")])
        self.assertEqual(desk.say("steps"), "1")
        self.assertEqual(Desk(View(Sheet(1, 1), high=2, wide=8)).say("steps"), "10")

    def test_refused(self):
        for line, due in (
            ("text 5 0 x", "nocell"), ("text 0 0 " + "x" * 41, "badtext"), ("text 2 2 x", "inside"),
            ("look 0 0 no top wrap", "badlook"),
            ("look 0 0  top wrap", "badlook"), ("merge 0 0 1 1", "badmany"), ("merge 0 0 2 2", "overlap"),
            ("part 0 0", "notmerged"),
            ("size no 0 1", "badaxis"), ("size  0 1", "badaxis"), ("size row 5 1", "noindex"),
            ("size row 0 61", "badsize"),
            ("hide row -1 1", "noindex"), ("put column 0 1000", "full"), ("hold 6 0", "badhold"),
            ("screen 31 1", "badscreen"),
            ("scroll 9 0", "badscroll"), ("go no 1", "badway"), ("go  1", "badway"), ("go up 0", "badmany"),
            ("caret 0 4", "nocell"),
            ("redo", "nothingleft"), ("hit 3 0", "noplace"), ("places 5 0", "nocell"),
        ):
            desk = some_desk()
            kept = told(desk.view)
            self.assertEqual(desk.say(line), "refused " + due, line)
            self.assertEqual(told(desk.view), kept)

    def test_questions_change_nothing(self):
        desk = some_desk()
        kept = told(desk.view)
        for line in ("screen", "caret", "scroll", "steps", "hit 0 0", "places 0 0", "no") * 2:
            desk.say(line)
            self.assertEqual(told(desk.view), kept)

    def test_by_chance(self):
        for seed in range(20):
            chance = random.Random(seed)
            view, plain = view_pair(6, 6, screen=(5, 12), wide=4)
            desk = Desk(view)
            for _ in range(30):
                deed = some_deed(chance, plain)
                due = plain.do(deed)
                row, = deed_rows(deed)
                self.assertEqual(desk.say(row), "done" if due is None else "refused " + due[0].lower(), deed)
                self.assertEqual(desk.say("screen"), "\n".join(plain.stand.drawing()))
                self.assertEqual(desk.say("steps"), str(put_count(plain.steps())))
                self.assertEqual(desk.say("caret"), " ".join(map(str, plain.stand.caret)))
                self.assertEqual(desk.say("scroll"), " ".join(map(str, plain.stand.scroll)))
                cell = (chance.randrange(plain.stand.count(0)), chance.randrange(plain.stand.count(1)))
                stretches = "; ".join(" ".join(map(str, each)) for each in plain.stand.places(*cell))
                self.assertEqual(desk.say(f"places {cell[0]} {cell[1]}"), stretches or "none")
                place = (chance.randrange(plain.stand.screen[0]), chance.randrange(plain.stand.screen[1]))
                box = plain.stand.hits()[place]
                self.assertEqual(desk.say(f"hit {place[0]} {place[1]}"), " ".join(map(str, box)) if box else "beyond")


class NoLines(unittest.TestCase):
    LINES = (
        "", " ", "no", "done", "undo ", " undo", "undo 1", "Undo", "redo ", "redo x", "screen ", " screen",
        "screen 1", "screen 1 2 3", "screen 1  2",
        "screen  1 2", "screen 1 x", "caret ", "caret 1", "caret 1 1 1", "caret 01 1", "scroll ", "scroll 1",
        "scroll 0 -0", "scroll x 0", "steps ",
        "steps 1", " steps", "hit", "hit ", "hit 1", "hit 1 ", "hit  1 2", "hit 1  2", "hit 1 2 ", "hit 1 2 3",
        "hit 01 2", "hit -0 2", "hit x 2", "hit +1 2",
        "hit 12345678 0", "hit 0 1.0", "Hit 0 0", "hit", "places", "places 1", "places 0 0 ", "places  0 0",
        "places 0 0 0", "places 00 0", "places 0 x",
        "places 0 -12345678", "all", "all 0", "all 1", "sheet 5 4 1 6", "text", "text 0 0", "text 0", "text 0  x",
        "text x 0 x", "text 00 0 x",
        "look 0 0 left top", "look 0 0 left top True", "look 0 0 left top wrap ", "merge 0 0 2", "merge 0 0 2 2 2",
        "part 0 0 ", "size row 0", "size row 0 x",
        "common row", "common row 0 ", "hide row 0 1 1", "go down", "go down 1 ", "go 1", "hold 1", "view", "twin",
        "screen\n", "undo undo", "laid", "deeds",
    )

    def test_lines(self):
        desk = some_desk()
        desk.say("undo")
        kept = told(desk.view)
        for number, line in enumerate(self.LINES):
            self.assertEqual(desk.say(line), "no line", line)
            self.assertEqual(desk.said, number + 2)
        self.assertEqual(told(desk.view), kept)
        self.assertEqual(desk.say("redo"), "done")

    def test_numbers(self):
        desk = some_desk()
        for number, due in (("0", "0 0 1 1"), ("2", "0 0 1 1"), ("-1", "refused noplace"),
                            ("9999999", "refused noplace"), ("-9999999", "refused noplace"),
                            ("10000000", "no line"), ("-10000000", "no line"), ("00", "no line"), ("-0", "no line"),
                            ("-", "no line"), ("--1", "no line"),
                            ("1-", "no line"), ("1_0", "no line"), ("1e1", "no line"), ("0x1", "no line"),
                            ("-00", "no line"), ("007", "no line"),
                            ("-01", "no line"), ("0000000", "no line"), ("~", "no line")):
            self.assertEqual(desk.say("hit 0 " + number), due, number)

    def test_kinds(self):
        desk = some_desk()
        for line in ("caret", "no", "undo", "screen", "hit 0 0", "text 9 9 x"):
            self.assertIs(type(desk.say(line=line)), str)

    def test_refused_stay_as_they_were(self):
        desk = some_desk()
        kept = refused(desk.say, "text 9 9 x")
        self.assertEqual([desk.say("text 9 9 x") for _ in range(3)], [kept] * 3)


if __name__ == "__main__":
    unittest.main()
