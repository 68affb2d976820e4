"""The steps of the screen behind each deed: points [10], [11] and [17]."""

import itertools
import random
import unittest

from compared_views import ComparedViews, view_of, view_pair
from gridscope.sheet import Sheet
from gridscope.steps import behind_steps, puts
from gridscope.view import View
from plain_steps import plain_step, put_count
from plain_text import some_text
from plain_view import refused
from test_view_runs import some_deed

ROWS = [("text", row, 0, text) for row, text in enumerate(("abcdef", "ghijkl", "mnopqr", "stuvwx", "yzABCD", "EFGHIJ"))]
GRID = [("text", row, column, "ABCDEFG"[row] + "abcdefg"[column] + str((row * 3 + column * 5) % 10))
        for row in range(7) for column in range(7)]


def shifts(view):
    return [step for step in view.steps() if step[0] == "shift"]


class WithoutShifts(unittest.TestCase):
    def check(self, deeds, last, due, screen=(4, 12)):
        view = view_of(6, 6, deeds, screen=screen)
        before = view.drawing()
        view.do(last)
        self.assertEqual(view.steps(), due)
        if len(before) == len(view.drawing()) and len(before[0]) == len(view.drawing()[0]):
            self.assertEqual(view.steps(), puts(before, view.drawing()))

    def test_texts(self):
        self.check([], ("text", 1, 1, "abc"), [("put", 1, 6, "abc")])
        self.check([("text", 1, 1, "abc")], ("text", 1, 1, "axcd"), [("put", 1, 7, "x"), ("put", 1, 9, "d")])
        self.check([("text", 1, 1, "abc")], ("text", 1, 1, ""), [("put", 1, 6, "   ")])
        self.check([("text", 1, 1, "abc")], ("text", 1, 1, "abc"), [])
        self.check([], ("text", 5, 5, "unseen"), [])

    def test_rising(self):
        self.check([("text", 0, 0, "ab"), ("text", 2, 1, "cd")], ("hide", "row", 0, 1),
                   [("put", 0, 0, "  "), ("put", 1, 6, "cd"), ("put", 2, 6, "  ")])

    def test_the_drawing_stays(self):
        for deed in (("caret", 1, 1), ("hold", 1, 1), ("look", 0, 0, "right", "top", True), ("all", ()),
                     ("scroll", 0, 0),
                     ("scroll", 1, 3), ("put", "row", 3, 2), ("merge", 2, 2, 2, 2)):
            self.check([], deed, [])

    def test_put_and_cut(self):
        self.check(ROWS, ("cut", "row", 0, 3), [("put", 0, 0, "stuvwx"), ("put", 1, 0, "yzABCD"),
                                                ("put", 2, 0, "EFGHIJ"),
                                                ("put", 3, 0, "~" * 12)])

    def test_sizes_are_no_scroll(self):
        # Though all signs go down by one, nothing is shifted.
        view = view_of(6, 6, ROWS + [("put", "row", 0, 1)], screen=(4, 12))
        self.assertEqual(shifts(view), [])
        self.assertEqual(put_count(view.steps()), 24)

    def test_another_screen(self):
        self.check(ROWS, ("screen", 2, 3), [("put", 0, 0, "abc"), ("put", 1, 0, "ghi")])
        self.check(ROWS, ("screen", 4, 13), [("put", 0, 0, "abcdef"), ("put", 1, 0, "ghijkl"), ("put", 2, 0, "mnopqr"),
                                            ("put", 3, 0, "stuvwx")])
        self.check(ROWS, ("screen", 4, 12), [])
        self.check([], ("screen", 7, 37), [("put", v, 36, "~") for v in range(6)] + [("put", 6, 0, "~" * 37)])

    def test_another_screen_of_as_many_places(self):
        self.check([("text", 0, 0, "ab")], ("screen", 12, 4),
                   [("put", 0, 0, "ab")] + [("put", v, 0, "~~~~") for v in range(6, 12)])

    def test_scrolled_and_another_screen(self):
        view = view_of(6, 6, ROWS + [("scroll", 2, 0), ("screen", 5, 12)], screen=(4, 12))
        self.assertEqual(view.scroll(), (1, 0))
        self.assertEqual(view.steps(), [("put", at, 0, text) for at, (_, _, _, text) in enumerate(ROWS[1:])])


class Shifted(unittest.TestCase):
    def check(self, deeds, last, due, screen=(4, 12), wide=6):
        view = view_of(6, 7, deeds, screen=screen, wide=wide)
        before = view.drawing()
        view.do(last)
        self.assertEqual(view.steps(), due)
        self.assertEqual(behind_steps(before, view.steps()), view.drawing())

    def test_down(self):
        self.check(ROWS, ("scroll", 1, 0), [("shift", 0, 0, 4, 12, 1, 0), ("put", 3, 0, "yzABCD")])
        self.check(ROWS, ("scroll", 2, 0), [("shift", 0, 0, 4, 12, 2, 0), ("put", 2, 0, "yzABCD"),
                                            ("put", 3, 0, "EFGHIJ")])

    def test_up(self):
        self.check(ROWS + [("scroll", 2, 0)], ("scroll", 1, 0),
                   [("shift", 0, 0, 4, 12, -1, 0), ("put", 0, 0, "ghijkl")])

    def test_across(self):
        self.check(ROWS, ("scroll", 0, 2), [("shift", 0, 0, 4, 12, 0, 2)])
        self.check(ROWS + [("scroll", 0, 2)], ("scroll", 0, 1),
                   [("shift", 0, 0, 4, 12, 0, -1), ("put", 0, 0, "b"), ("put", 1, 0, "h"), ("put", 2, 0, "n"),
                    ("put", 3, 0, "t")])

    def test_held_rows(self):
        self.check(ROWS + [("hold", 1, 0)], ("scroll", 1, 0), [("shift", 1, 0, 3, 12, 1, 0), ("put", 3, 0, "yzABCD")])
        self.check(ROWS + [("hold", 1, 0)], ("scroll", 0, 2),
                   [("shift", 1, 0, 3, 12, 0, 2), ("shift", 0, 0, 1, 12, 0, 2)])

    def test_held_columns(self):
        deeds = GRID[:35] + [("hold", 0, 1)]
        view = view_of(7, 7, deeds, screen=(4, 9), wide=3)
        view.do(("scroll", 1, 0))
        self.assertEqual(shifts(view), [("shift", 0, 3, 4, 6, 1, 0), ("shift", 0, 0, 4, 3, 1, 0)])
        view.do(("scroll", 1, 1))
        self.assertEqual(shifts(view), [("shift", 0, 3, 4, 6, 0, 1)])

    def test_both_held_and_both_ways(self):
        view = view_of(7, 7, GRID + [("hold", 1, 1)], screen=(5, 12), wide=3)
        for scroll, due in (
            ((1, 0), [("shift", 1, 3, 4, 9, 1, 0), ("shift", 1, 0, 4, 3, 1, 0)]),
            ((1, 3), [("shift", 1, 3, 4, 9, 0, 3), ("shift", 0, 3, 1, 9, 0, 3)]),
            ((2, 6), [("shift", 1, 3, 4, 9, 1, 3), ("shift", 0, 3, 1, 9, 0, 3), ("shift", 1, 0, 4, 3, 1, 0)]),
            ((1, 5), [("shift", 1, 3, 4, 9, -1, -1), ("shift", 0, 3, 1, 9, 0, -1), ("shift", 1, 0, 4, 3, -1, 0)]),
        ):
            before = view.drawing()
            view.do(("scroll", *scroll))
            self.assertEqual(shifts(view), due)
            self.assertEqual(view.steps()[:len(due)], due)
            self.assertEqual(behind_steps(before, view.steps()), view.drawing())

    def test_held_ones_by_their_sizes(self):
        deeds = GRID + [("hold", 2, 2), ("size", "row", 0, 2), ("hide", "column", 1, 1)]
        view = view_of(7, 7, deeds + [("scroll", 1, 0)], screen=(6, 12), wide=3)
        self.assertEqual(shifts(view), [("shift", 3, 3, 3, 9, 1, 0), ("shift", 3, 0, 3, 3, 1, 0)])

    def test_stretches_of_one_row_or_column(self):
        view = view_of(7, 7, GRID + [("hold", 1, 1), ("size", "column", 0, 1), ("scroll", 1, 1)], screen=(5, 12),
                       wide=3)
        self.assertEqual(shifts(view), [("shift", 1, 1, 4, 11, 1, 1), ("shift", 0, 1, 1, 11, 0, 1),
                                        ("shift", 1, 0, 4, 1, 1, 0)])

    def test_a_held_width_beyond_the_screen(self):
        # There is no scroll across, and nothing but held columns: one stretch is left.
        deeds = ROWS + [("size", "column", 0, 20), ("hold", 1, 1)]
        self.check(deeds, ("scroll", 1, 0), [("shift", 1, 0, 3, 12, 1, 0), ("put", 3, 0, "yzABCD")])

    def test_no_fewer_signs(self):
        # Nothing of what is shown stands there then: no shift, though the scroll is another one.
        self.check([("text", 5, 0, "x")], ("scroll", 2, 0), [("put", 3, 0, "x")])
        view = view_of(1000, 26, [("text", row, 0, "row" + str(row)) for row in range(30)], screen=(4, 12))
        view.do(("scroll", 20, 0))
        self.assertEqual(shifts(view), [])
        # As many signs either way: without.
        self.check([("text", 0, 0, "x"), ("text", 2, 0, "x"), ("text", 4, 0, "x")], ("scroll", 2, 0), [])
        self.check([("text", 0, 0, "a"), ("text", 1, 0, "a"), ("text", 2, 0, "b")], ("scroll", 1, 0),
                   [("put", 1, 0, "b")], screen=(2, 3))

    def test_another_held_height_or_width(self):
        for last in (("hold", 1, 0), ("hold", 0, 1), ("hold", 1, 1)):
            view = view_of(7, 7, GRID, screen=(5, 12), wide=3)
            view.do(("all", (last, ("scroll", 1, 0))))
            self.assertEqual(shifts(view), [])
        view = view_of(7, 7, GRID + [("hold", 1, 1)], screen=(5, 12), wide=3)
        view.do(("all", (("scroll", 1, 0), ("size", "row", 0, 2))))
        self.assertEqual(shifts(view), [])

    def test_another_hold_of_the_same_sums(self):
        # The sums of sizes count, not how many are held.
        view = view_of(7, 7, GRID + [("hide", "row", 1, 1), ("hold", 1, 0)], screen=(5, 12), wide=3)
        view.do(("all", (("hold", 2, 0), ("scroll", 1, 0))))
        self.assertEqual(shifts(view), [("shift", 1, 0, 4, 12, 1, 0)])

    def test_a_scroll_brought_back_by_a_deed(self):
        view = view_of(7, 7, GRID + [("scroll", 2, 0), ("cut", "row", 6, 1)], screen=(5, 12), wide=3)
        self.assertEqual((view.scroll(), shifts(view)), ((1, 0), [("shift", 0, 0, 5, 12, -1, 0)]))

    def test_a_scroll_by_the_caret(self):
        view = view_of(7, 7, GRID + [("go", "down", 6)], screen=(5, 12), wide=3)
        self.assertEqual((view.scroll(), shifts(view)), ((2, 0), [("shift", 0, 0, 5, 12, 2, 0)]))

    def test_taken_back_and_done_again(self):
        view = view_of(7, 7, GRID + [("scroll", 1, 0)], screen=(5, 12), wide=3)
        view.undo()
        self.assertEqual(shifts(view), [("shift", 0, 0, 5, 12, -1, 0)])
        view.redo()
        self.assertEqual(shifts(view), [("shift", 0, 0, 5, 12, 1, 0)])

    def test_several_as_one(self):
        view = view_of(7, 7, GRID, screen=(5, 12), wide=3)
        view.do(("all", (("scroll", 2, 3), ("scroll", 1, 0), ("text", 6, 6, "unseen"))))
        self.assertEqual(shifts(view), [("shift", 0, 0, 5, 12, 1, 0)])
        view.do(("all", (("screen", 3, 3), ("screen", 5, 12))))
        self.assertEqual(view.steps(), [])


class LeadToTheScreen(ComparedViews):
    def follow(self, view, ahead, step):
        """The steps lead from the drawing ahead of a deed to that behind it."""
        high, wide = view.size()
        if (len(ahead), len(ahead[0])) != (high, wide):
            ahead = [" " * wide] * high
        self.assertEqual(behind_steps(ahead, view.steps()), view.drawing(), step)
        drawn = ahead
        for each in view.steps():
            drawn = plain_step(drawn, each)
        self.assertEqual(drawn, view.drawing(), step)
        self.assertLessEqual(put_count(view.steps()), put_count(puts(ahead, view.drawing())))

    def test_every_scroll_to_every_other(self):
        for hold in ((0, 0), (1, 1), (2, 0)):
            view, plain = view_pair(7, 7, GRID + [("merge", 2, 2, 3, 2), ("hold", *hold)], wide=3, screen=(5, 17))
            scrolls = list(itertools.product(range(3), range(5)))
            for one, other in itertools.product(scrolls, repeat=2):
                view.do(("scroll", *one))
                plain.do(("scroll", *one))
                ahead = view.drawing()
                view.do(("scroll", *other))
                plain.do(("scroll", *other))
                self.follow(view, ahead, (one, other))
                if (one[0] + one[1] + other[0] + other[1]) % 5 == 0:
                    self.assertEqual(view.steps(), plain.steps())

    def test_from_blanks(self):
        for seed in range(30):
            chance = random.Random(seed)
            sheet = Sheet(chance.randint(1, 20), chance.randint(1, 20))
            for _ in range(30):
                cell = (chance.randrange(sheet.rows().many), chance.randrange(sheet.columns().many))
                sheet.do(("text", *cell, some_text(chance)))
            view = View(sheet, high=chance.randint(1, 30), wide=chance.randint(1, 60))
            self.follow(view, [" " * view.size()[1]] * view.size()[0], seed)

    def test_by_chance(self):
        for seed in range(40):
            chance = random.Random(seed)
            view, plain = view_pair(7, 7, GRID[::2] + [("hold", 1, 1)], wide=3, screen=(6, 14))
            for _ in range(40):
                step = some_deed(chance, plain)
                ahead = view.drawing()
                due = plain.do(step)
                self.assertEqual(refused(view.do, step), due)
                if due is None:
                    self.follow(view, ahead, step)
                ahead = view.drawing()
                if chance.random() < 0.2 and plain.past:
                    view.undo()
                    plain.undo()
                    self.follow(view, ahead, "undo")


if __name__ == "__main__":
    unittest.main()
