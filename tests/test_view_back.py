"""Taken back and done again, and ways that lead to one stand: points [1], [9], [17] and [18]."""

import random
import unittest

from compared_views import ComparedViews, view_of, view_pair
from gridscope.errors import NothingLeft
from gridscope.sheet import Sheet
from gridscope.view import View
from plain_view import refused, told
from test_view_runs import some_step

DEEDS = [
    ("text", 0, 0, "first"), ("look", 0, 0, "right", "top", True), ("merge", 1, 1, 2, 2), ("text", 1, 1, "box"),
    ("size", "row", 0, 2), ("common", "row", 0), ("hide", "column", 3, 1), ("show", "column", 2, 2), ("screen", 4, 9),
    ("hold", 1, 1), ("caret", 4, 4), ("put", "row", 2, 2), ("cut", "column", 0, 1), ("fit", "column", 0),
    ("part", 1, 0),
    ("scroll", 0, 1), ("go", "up", 2), ("all", (("text", 0, 0, "x"), ("scroll", 0, 0))), ("text", 0, 0, ""),
    ("all", ()),
]


class Back(ComparedViews):
    def test_one_by_one(self):
        view = View(Sheet(5, 5))
        stands = [view.twin()]
        for deed in DEEDS:
            view.do(deed)
            stands.append(view.twin())
        for number in range(len(DEEDS) - 1, -1, -1):
            self.assertEqual(view.undo(), DEEDS[number])
            self.assertEqual(view, stands[number])
            self.assertEqual(view.drawing(), stands[number].drawing())
            self.assertEqual(view.deeds(), DEEDS[:number])
        for number, deed in enumerate(DEEDS):
            self.assertEqual(view.redo(), deed)
            self.assertEqual(view, stands[number + 1])
            self.assertEqual(view.drawing(), stands[number + 1].drawing())
            self.assertEqual(view.deeds(), DEEDS[:number + 1])

    def test_all_is_as_it_was(self):
        for number, deed in enumerate(DEEDS):
            view, plain = view_pair(5, 5, DEEDS[:number])
            kept = (view.sheet(), view.size(), view.hold(), view.scroll(), view.caret())
            self.check(view, plain, deed)
            behind = (view.sheet(), view.size(), view.hold(), view.scroll(), view.caret())
            self.check_turn(view, plain, "undo")
            self.assertEqual((view.sheet(), view.size(), view.hold(), view.scroll(), view.caret()), kept)
            self.check_turn(view, plain, "redo")
            self.assertEqual((view.sheet(), view.size(), view.hold(), view.scroll(), view.caret()), behind)

    def test_nothing_left(self):
        view = View(Sheet(5, 5))
        kept = told(view)
        for _ in range(2):
            for turn in (view.undo, view.redo):
                with self.assertRaises(NothingLeft):
                    turn()
            self.assertEqual(told(view), kept)
        view.do(("text", 0, 0, "x"))
        with self.assertRaises(NothingLeft):
            view.redo()
        view.undo()
        kept = told(view)
        with self.assertRaises(NothingLeft):
            view.undo()
        self.assertEqual(told(view), kept)
        view.redo()
        with self.assertRaises(NothingLeft):
            view.redo()

    def test_until_another_deed_is_done(self):
        for another in (("text", 0, 0, "x"), ("all", ()), ("scroll", 0, 0), ("caret", 0, 0)):
            view = view_of(5, 5, DEEDS[:9])
            view.undo()
            view.undo()
            view.do(another)
            with self.assertRaises(NothingLeft):
                view.redo()
            self.assertEqual(view.deeds(), DEEDS[:7] + [another])

    def test_not_by_one_that_is_refused(self):
        view = view_of(5, 5, DEEDS[:9])
        view.undo()
        for deed in (("text", 9, 9, "x"), ("all", (("text", 9, 9, "x"),)), ("scroll", 99, 0), ("go", "no", 1)):
            refused(view.do, deed)
        self.assertEqual(view.deeds(), DEEDS[:8])
        self.assertEqual(view.redo(), DEEDS[8])

    def test_refused_deeds_do_not_count(self):
        view = View(Sheet(5, 5))
        for deed in (("text", 9, 9, "x"), ("hold", 6, 0), ("all", (("all", ()),))):
            refused(view.do, deed)
        self.assertEqual(view.deeds(), [])
        with self.assertRaises(NothingLeft):
            view.undo()

    def test_the_sheet_at_first_is_the_end(self):
        sheet = Sheet(5, 5)
        sheet.do(("text", 0, 0, "before"))
        view = View(sheet, high=3, wide=7)
        view.do(("screen", 9, 9))
        view.undo()
        self.assertEqual(view, View(sheet, high=3, wide=7))
        with self.assertRaises(NothingLeft):
            view.undo()

    def test_laid_and_steps_of_the_turn(self):
        view = view_of(5, 5, [("text", 0, 0, "abc"), ("text", 0, 0, "axc")])
        self.assertEqual((view.laid(), view.steps()), ([(0, 0, 1, 1)], [("put", 0, 1, "x")]))
        view.undo()
        self.assertEqual((view.laid(), view.steps()), ([(0, 0, 1, 1)], [("put", 0, 1, "b")]))
        view.undo()
        self.assertEqual((view.laid(), view.steps()), ([], [("put", 0, 0, "   ")]))
        view.redo()
        self.assertEqual((view.laid(), view.steps()), ([(0, 0, 1, 1)], [("put", 0, 0, "abc")]))

    def test_back_to_another_screen(self):
        view = view_of(5, 5, [("text", 0, 0, "abc"), ("screen", 1, 2)])
        view.undo()
        self.assertEqual(view.laid(), [(0, 0, 1, 1)])
        self.assertEqual(view.steps(), [("put", 0, 0, "abc")] + [("put", v, 0, "~" * 30) for v in range(5, 10)])

    def test_all_back_and_all_again(self):
        for seed in range(25):
            chance = random.Random(seed)
            view, plain = view_pair(6, 6, screen=(4, 14), wide=4)
            for _ in range(30):
                step = some_step(chance, plain)
                if step in ("undo", "redo"):
                    self.assertEqual(refused(getattr(view, step)), getattr(plain, step)())
                else:
                    self.assertEqual(refused(view.do, step), plain.do(step))
            last, deeds = view.twin(), view.deeds()
            back = [view.undo() for _ in deeds]
            self.assertEqual(back, deeds[::-1])
            self.assertEqual(view, View(Sheet(6, 6, wide=4), high=4, wide=14))
            self.assertEqual([view.redo() for _ in deeds], deeds)
            self.assertEqual(view, last)
            self.assertEqual((view.sheet(), view.drawing(), view.deeds()), (last.sheet(), last.drawing(), deeds))

    def test_many(self):
        view = View(Sheet())
        for number in range(2000):
            view.do(("text", number % 50, 0, str(number)))
        for number in range(1999, -1, -1):
            self.assertEqual(view.undo(), ("text", number % 50, 0, str(number)))
        self.assertEqual(view, View(Sheet()))


class OneStand(unittest.TestCase):
    """Several ways that lead to one stand."""

    WAYS = [
        ([("text", 0, 0, "a"), ("text", 1, 1, "b")], [("text", 1, 1, "b"), ("text", 0, 0, "a")]),
        ([("go", "down", 3)], [("caret", 3, 0)]),
        ([("go", "down", 1), ("go", "right", 2), ("go", "up", 1)], [("go", "right", 2)]),
        ([("put", "row", 2, 3), ("cut", "row", 2, 3)], []),
        ([("put", "column", 0, 1), ("put", "column", 0, 2)], [("put", "column", 0, 3)]),
        ([("hide", "row", 1, 2)], [("hide", "row", 2, 1), ("hide", "row", 1, 1)]),
        ([("hide", "row", 1, 2), ("show", "row", 0, 5)], []),
        ([("size", "row", 0, 4), ("common", "row", 0)], [("size", "row", 0, 1)]),
        ([("merge", 1, 1, 2, 2), ("text", 1, 1, "a"), ("part", 2, 2)], [("text", 1, 1, "a")]),
        ([("text", 2, 2, "gone"), ("merge", 1, 1, 2, 2), ("part", 1, 1)], []),
        ([("screen", 3, 5), ("hold", 1, 1)], [("hold", 1, 1), ("screen", 3, 5)]),
        ([("screen", 3, 5), ("scroll", 2, 7), ("scroll", 1, 1)], [("screen", 3, 5), ("scroll", 1, 1)]),
        ([("all", (("text", 0, 0, "a"), ("hold", 1, 1)))], [("text", 0, 0, "a"), ("hold", 1, 1)]),
        ([("screen", 3, 5), ("caret", 4, 4), ("scroll", 0, 0), ("go", "right", 1)],
         [("screen", 3, 5), ("caret", 4, 4)]),
        ([("text", 0, 0, "abc"), ("fit", "column", 0)], [("size", "column", 0, 3), ("text", 0, 0, "abc")]),
        ([("look", 0, 0, "right", "top", True), ("look", 0, 0, "left", "top", False)], [("all", ())]),
    ]

    def test_ways(self):
        for one, other in self.WAYS:
            left, right = view_of(5, 5, one), view_of(5, 5, other)
            self.assertEqual(left, right)
            self.assertEqual((left.drawing(), len(left), str(left)), (right.drawing(), len(right), str(right)))
            self.assertEqual([left.places(row, column) for row in range(5) for column in range(5)],
                             [right.places(row, column) for row in range(5) for column in range(5)])

    def test_what_follows_is_the_same(self):
        for one, other in self.WAYS:
            left, right = view_of(5, 5, one), view_of(5, 5, other)
            for deed in (("text", 3, 3, "x"), ("put", "row", 1, 1), ("screen", 3, 9), ("go", "down", 2),
                         ("scroll", 1, 1)):
                left.do(deed)
                right.do(deed)
                self.assertEqual(left, right)
                self.assertEqual((left.laid(), left.steps(), left.drawing()),
                                 (right.laid(), right.steps(), right.drawing()))


if __name__ == "__main__":
    unittest.main()
