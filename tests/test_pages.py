"""Deeds as rows, pages there and back, and texts that are no pages: points [17] and [19]."""

import random
import unittest

from compared_views import view_of, view_pair
from gridscope import pages
from gridscope.errors import BadPage, NothingLeft
from gridscope.pages import deed_rows, page, read_page
from gridscope.sheet import Sheet
from gridscope.view import View
from plain_view import refused, told
from test_view_runs import some_step

FIRST = "sheet 5 4 1 6\n"
WRITTEN = [
    (("text", 3, 2, "a text"), "text 3 2 a text"), (("text", 0, 0, ""), "text 0 0 "),
    (("text", 0, 0, "  a  b "), "text 0 0   a  b "),
    (("text", 0, 0, " "), "text 0 0  "), (("text", 0, 0, "all 3"), "text 0 0 all 3"),
    (("text", 0, 0, "~!\"#$&'()*"), "text 0 0 ~!\"#$&'()*"),
    (("look", 1, 2, "left", "top", True), "look 1 2 left top wrap"),
    (("look", 1, 2, "right", "bottom", False), "look 1 2 right bottom nowrap"),
    (("merge", 0, 1, 2, 3), "merge 0 1 2 3"), (("part", 4, 3), "part 4 3"), (("size", "row", 0, 12), "size row 0 12"),
    (("common", "column", 3), "common column 3"), (("hide", "row", 1, 2), "hide row 1 2"),
    (("show", "column", 0, 4), "show column 0 4"),
    (("put", "row", 5, 1000), "put row 5 1000"), (("cut", "column", 1, 1), "cut column 1 1"),
    (("fit", "row", 2), "fit row 2"),
    (("hold", 1, 0), "hold 1 0"), (("screen", 30, 60), "screen 30 60"), (("scroll", 0, 0), "scroll 0 0"),
    (("caret", 4, 3), "caret 4 3"), (("go", "down", 99), "go down 99"),
]


class Rows(unittest.TestCase):
    def test_each_deed(self):
        for deed, row in WRITTEN:
            self.assertEqual(deed_rows(deed), [row])

    def test_several(self):
        self.assertEqual(deed_rows(("all", ())), ["all 0"])
        self.assertEqual(deed_rows(("all", (("text", 0, 0, ""), ("go", "up", 1)))), ["all 2", "text 0 0 ", "go up 1"])
        deeds = tuple(deed for deed, _ in WRITTEN)
        self.assertEqual(deed_rows(("all", deeds)), ["all 22"] + [row for _, row in WRITTEN])

    def test_deeds_that_would_be_refused(self):
        for deed, row in ((("text", -1, -20, "x"), "text -1 -20 x"), (("size", "no", 0, 61), "size no 0 61"),
                          (("go", "", 1), "go  1"),
                          (("look", 0, 0, "", "", True), "look 0 0   wrap"),
                          (("caret", 10 ** 29, 0), f"caret {10 ** 29} 0")):
            self.assertEqual(deed_rows(deed), [row])

    def test_told(self):
        first = deed_rows(("all", (("go", "up", 1),)))
        self.assertIs(type(first), list)
        first.clear()
        self.assertEqual(deed_rows(deed=("all", (("go", "up", 1),))), ["all 1", "go up 1"])

    def test_names_of_the_file(self):
        for name in ("deed_rows", "page", "read_page"):
            self.assertEqual(getattr(pages, name).__module__, "gridscope.pages")


class ThereAndBack(unittest.TestCase):
    def check(self, view):
        text = page(view)
        other = read_page(text)
        self.assertIs(type(other), View)
        self.assertEqual(other, view)
        self.assertEqual(other.deeds(), view.deeds())
        self.assertEqual((other.drawing(), other.size()), (view.drawing(), view.size()))
        self.assertEqual(page(other), text)
        with self.assertRaises(NothingLeft):
            other.redo()
        return text

    def test_no_deeds(self):
        self.assertEqual(self.check(View(Sheet())), "sheet 100 26 1 6\n")
        self.assertEqual(self.check(View(Sheet(5, 4))), FIRST)
        self.assertEqual(self.check(View(Sheet(1000000, 1000, high=60, wide=59))), "sheet 1000000 1000 60 59\n")
        self.assertEqual(self.check(View(Sheet(1, 1, high=1, wide=1))), "sheet 1 1 1 1\n")

    def test_each_deed(self):
        for deed, row in WRITTEN:
            view = view_of(5, 4, [("merge", 3, 2, 2, 2), ("part", 3, 2)])
            if deed[0] == "part":
                view.do(("merge", 3, 2, 2, 2))
            view.do(deed)
            self.assertTrue(self.check(view).endswith("\n" + row + "\n"))

    def test_counts_as_at_first(self):
        view = view_of(5, 4, [("put", "row", 0, 3), ("cut", "column", 1, 2), ("size", "row", 0, 9)])
        self.assertEqual(self.check(view), FIRST + "put row 0 3\ncut column 1 2\nsize row 0 9\n")
        view = view.twin()
        self.assertEqual(self.check(view), FIRST + "put row 0 3\ncut column 1 2\nsize row 0 9\n")

    def test_several(self):
        view = view_of(5, 4, [("all", (("text", 0, 0, ""), ("text", 1, 1, " x"))), ("all", ()), ("go", "down", 1)])
        self.assertEqual(self.check(view), FIRST + "all 2\ntext 0 0 \ntext 1 1  x\nall 0\ngo down 1\n")

    def test_deeds_that_count(self):
        view = view_of(5, 4, [("text", 0, 0, "a"), ("text", 0, 0, "b"), ("screen", 3, 5)])
        view.undo()
        self.assertEqual(page(view), FIRST + "text 0 0 a\ntext 0 0 b\n")
        self.assertEqual(read_page(page(view)), view)
        with self.assertRaises(NothingLeft):
            read_page(page(view)).redo()
        refused(view.do, ("text", 9, 9, "x"))
        self.assertEqual(page(view), FIRST + "text 0 0 a\ntext 0 0 b\n")
        view.redo()
        self.assertEqual(self.check(view), FIRST + "text 0 0 a\ntext 0 0 b\nscreen 3 5\n")

    def test_what_was_read_can_be_taken_back(self):
        view = read_page(FIRST + "text 0 0 a\nall 1\nhold 1 1\n")
        self.assertEqual(view.deeds(), [("text", 0, 0, "a"), ("all", (("hold", 1, 1),))])
        self.assertEqual([view.undo(), view.undo()], [("all", (("hold", 1, 1),)), ("text", 0, 0, "a")])
        self.assertEqual(view, View(Sheet(5, 4)))

    def test_laid_and_steps_of_the_last_deed(self):
        view = read_page(FIRST + "text 0 0 a\ntext 1 0 b\n")
        self.assertEqual((view.laid(), view.steps()), ([(1, 0, 1, 1)], [("put", 1, 0, "b")]))

    def test_asked_again(self):
        view = view_of(5, 4, [("text", 0, 0, "a")])
        kept = told(view)
        self.assertEqual(page(view), page(view))
        one, other = read_page(page(view)), read_page(page(view))
        one.do(("text", 0, 0, "b"))
        self.assertEqual((other, told(view)), (view, kept))
        self.assertEqual(read_page(text=page(view=view)), view)

    def test_by_chance(self):
        for seed in range(30):
            chance = random.Random(seed)
            view, plain = view_pair(chance.randint(1, 8), chance.randint(1, 8))
            for _ in range(40):
                step = some_step(chance, plain)
                if step in ("undo", "redo"):
                    self.assertEqual(refused(getattr(view, step)), getattr(plain, step)())
                else:
                    self.assertEqual(refused(view.do, step), plain.do(step))
            self.check(view)


class NoPages(unittest.TestCase):
    def check(self, text, row):
        with self.assertRaises(BadPage) as caught:
            read_page(text)
        self.assertEqual(caught.exception.row, row, text)
        self.assertIs(type(caught.exception.row), int)

    def test_nothing(self):
        self.check("", 0)
        self.check("\n", 0)
        self.check("\n\n", 0)
        self.check(" ", 0)

    def test_first_rows(self):
        for row in ("sheet", "sheet ", "sheet 5 4 1", "sheet 5 4 1 6 7", "sheet 5 4 1 6 ", " sheet 5 4 1 6",
                    "sheet  5 4 1 6", "Sheet 5 4 1 6",
                    "sheet 5 4 1 06", "sheet 05 4 1 6", "sheet +5 4 1 6", "sheet 5 4 1 -0", "sheet 5 4 1 x",
                    "sheet 5 4 1 ", "sheet 5 4  6",
                    "sheet 5 4 1 6.0", "sheet5 4 1 6", "sheet 10000000 4 1 6", "sheet 00000005 4 1 6", "text 0 0 x",
                    "all 0", "5 4 1 6",
                    "sheet 0 4 1 6", "sheet 5 0 1 6", "sheet 5 4 0 6", "sheet 5 4 1 0", "sheet 5 4 61 6",
                    "sheet 5 4 1 61",
                    "sheet 1000001 4 1 6", "sheet 5 1001 1 6", "sheet -5 4 1 6", "sheet 5 4 1 -6",
                    "sheet 9999999 4 1 6"):
            self.check(row + "\n", 0)
            self.check(row + "\ntext 0 0 a\n", 0)
            self.check(row, 0)
        self.check("sheet 5 4 1 6", 0)

    def test_a_line_feed_too_few(self):
        self.check(FIRST + "text 0 0 a", 1)
        self.check(FIRST + "text 0 0 a\nhold 1 1", 2)
        self.check(FIRST + "no", 1)
        self.check(FIRST + " ", 1)
        self.check(FIRST + "all 1\ntext 0 0 a", 2)
        self.check(FIRST + "all 0", 1)
        self.check(FIRST + "text 9 9 a", 1)

    def test_a_line_feed_too_many(self):
        self.check(FIRST + "\n", 1)
        self.check("\n" + FIRST, 0)
        self.check(FIRST + "text 0 0 a\n\n", 2)
        self.check(FIRST + "\ntext 0 0 a\n", 1)

    def test_rows_not_so_written(self):
        for row in ("", " ", "text", "text 0", "text 0 0", "text 0  a", "text  0 a", "text x 0 a", " text 0 0 a",
                    "Text 0 0 a", "text 00 0 a",
                    "text 0 -0 a", "text 0 12345678 a", "text +0 0 a", "look 0 0 left top", "look 0 0 left top ",
                    "look 0 0 left top True",
                    "look 0 0 left top wrap ", "look 0 0 left top wrap wrap", "look 0 0 left top Wrap",
                    "look 0 0 left wrap",
                    "look 0 x left top wrap", "merge 0 0 2", "merge 0 0 2 2 ", "merge 0 0 2 2 2", "merge 0 0 2 02",
                    "part 0", "part 0 0 0",
                    "part 0 0 ", "size row 0", "size row 0 1 2", "size row x 1", "size row 0 ", "size 0 1",
                    "common row", "common row 0 0",
                    "hide row 0", "show row 0", "put row 0", "cut row 0", "hide row 0 1 ", "fit row", "fit row ",
                    "fit row 0 ", "hold 1",
                    "hold 1 1 1", "hold 1  1", "screen 5", "screen", "scroll", "scroll 0", "caret", "caret 0 0 0",
                    "go down", "go down x",
                    "go down 1 ", "go down  1", "undo", "redo", "hit 0 0", "places 0 0", "steps", "sheet 5 4 1 6",
                    "all", "all ", "all x", "all -1",
                    "all 00", "all 1 1", "all -0", "all 0 ", " all 0", "all 12345678", "done", "text\t0 0 a"):
            self.check(FIRST + row + "\n", 1)
            self.check(FIRST + "go down 1\n" + row + "\ntext 0 0 a\n", 2)

    def test_rows_that_are_refused(self):
        for row in ("text 5 0 a", "text -1 0 a", "text 0 0 " + "x" * 41, "look 0 0 no top wrap", "look 0 0  top wrap",
                    "look 0 0   wrap",
                    "merge 0 0 1 1", "merge 0 0 9 9", "part 0 0", "size no 0 1", "size  0 1", "size row 5 1",
                    "size row 0 61", "common no 0",
                    "hide row 0 6", "show row 0 0", "put row 6 1", "put row 0 1001", "cut row 0 5", "fit  0",
                    "hold 6 0", "hold -1 0",
                    "screen 31 1", "scroll 1 0", "scroll -1 0", "caret 5 0", "go no 1", "go  1", "go down 0",
                    "go down 100", "caret 9999999 0",
                    "caret -9999999 0"):
            self.check(FIRST + row + "\n", 1)
            self.check(FIRST + "all 0\ngo down 1\n" + row + "\nno\n", 3)

    def test_the_first_wrong_row(self):
        self.check(FIRST + "text 9 9 a\nno\n", 1)
        self.check(FIRST + "no\ntext 9 9 a\n", 1)
        self.check(FIRST + "go up 1\ntext 9 9 a\nno", 2)
        self.check("sheet 0 4 1 6\nno\n", 0)

    def test_refused_by_what_is_ahead(self):
        self.check(FIRST + "cut row 0 3\ntext 1 0 a\ntext 2 0 a\n", 3)
        self.check(FIRST + "merge 0 0 2 2\npart 1 1\npart 1 1\n", 3)

    def test_rows_of_an_all(self):
        # Read ahead of its being done: a row not so written goes first, whatever is refused.
        self.check(FIRST + "all 2\ntext 9 9 a\nno\n", 3)
        self.check(FIRST + "all 2\nno\ntext 9 9 a\n", 2)
        self.check(FIRST + "all 2\ntext 9 9 a\ngo up 1\n", 1)
        self.check(FIRST + "all 2\ngo up 1\ntext 9 9 a\n", 1)
        self.check(FIRST + "all 2\ngo up 1\ntext 9 9 a\nno\n", 1)
        self.check(FIRST + "all 2\ngo up 1\nsize  0 1\n", 1)
        self.check(FIRST + "go up 1\nall 1\ngo  1\n", 2)
        self.check(FIRST + "all 1\nlook 0 0 left top no\n", 2)

    def test_an_all_within_an_all(self):
        self.check(FIRST + "all 1\nall 0\n", 2)
        self.check(FIRST + "all 2\ntext 0 0 a\nall 0\n", 3)
        self.check(FIRST + "all 2\ntext 9 9 a\nall 1\ntext 0 0 a\n", 3)
        self.check(FIRST + "all 1\nsheet 5 4 1 6\n", 2)

    def test_rows_that_are_not_there(self):
        self.check(FIRST + "all 1\n", 2)
        self.check(FIRST + "all 3\ntext 0 0 a\n", 3)
        self.check(FIRST + "all 3\ntext 0 0 a\ntext 0 0 b", 3)
        self.check(FIRST + "all 3\ntext 9 9 a\n", 3)
        self.check(FIRST + "all 3\nno\n", 2)
        self.check(FIRST + "all 9999999\ntext 0 0 a\n", 3)
        self.check(FIRST + "all 1", 1)

    def test_numbers_of_seven_figures(self):
        view = read_page("sheet 1000000 1000 1 6\nscroll 999990 5970\ncaret 999999 999\n")
        self.assertEqual((view.scroll(), view.caret()), ((999990, 5970), (999999, 999)))
        view = read_page("sheet 1000000 1 60 6\nscroll 9999999 0\n")
        self.assertEqual(view.scroll(), (9999999, 0))
        # Eight figures are too many, though there is such a scroll.
        self.check("sheet 1000000 1 60 6\nscroll 10000000 0\n", 1)
        self.check("sheet 1000000 1 60 6\nall 1\nscroll 10000000 0\n", 2)

    def test_left_out_signs(self):
        """Each text that lacks one sign of a page is a page only where it is written as one."""
        text = FIRST + "all 2\ntext 1 1 ab\ngo down 1\nhold 1 1\n"
        for at in range(len(text)):
            less = text[:at] + text[at + 1:]
            try:
                self.assertEqual(page(read_page(less)), less)
            except BadPage as why:
                self.assertLessEqual(why.row, less.count("\n"))


if __name__ == "__main__":
    unittest.main()
