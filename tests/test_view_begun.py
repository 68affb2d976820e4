"""Views begun, asked, compared and twinned: points [1], [8], [17] and [18], and the interface of View."""

import itertools
import unittest

from compared_views import ComparedViews, view_of, view_pair
from gridscope import view as module
from gridscope.errors import BadScreen, NoCell, NoPlace, NothingLeft
from gridscope.sheet import Sheet
from gridscope.view import View
from plain_view import refused, told

FAR = 10 ** 29
BEGUN = [
    ("text", 0, 0, "first"), ("text", 3, 2, "one two"), ("look", 3, 2, "right", "bottom", True),
    ("merge", 1, 1, 2, 2), ("text", 1, 1, "box"), ("size", "row", 2, 4), ("hide", "column", 3, 1),
    ("hold", 1, 1), ("screen", 6, 15), ("caret", 2, 2), ("scroll", 2, 3),
]
# Each leads to a view that is another one than that behind BEGUN.
OTHER_DEEDS = [
    ("text", 0, 0, "firsT"), ("text", 5, 4, "more"), ("look", 0, 0, "left", "top", True), ("merge", 4, 0, 1, 2),
    ("part", 1, 1), ("size", "row", 2, 5), ("common", "row", 2), ("hide", "row", 0, 1), ("show", "column", 3, 1),
    ("put", "row", 6, 1), ("cut", "column", 4, 1), ("fit", "column", 0), ("hold", 0, 1), ("hold", 1, 0), ("hold", 2, 2),
    ("screen", 5, 15), ("screen", 6, 14), ("scroll", 1, 3), ("scroll", 2, 2), ("scroll", 0, 0), ("caret", 0, 0),
    ("go", "down", 1), ("all", (("hold", 0, 0), ("scroll", 1, 1))),
]


class AlwaysEqual:
    def __eq__(self, other):
        return True


class Begun(unittest.TestCase):
    def check(self, view, sheet, high, wide):
        self.assertEqual((view.size(), view.hold(), view.scroll(), view.caret()),
                         ((high, wide), (0, 0), (0, 0), (0, 0)))
        self.assertEqual(view.sheet(), sheet)
        self.assertEqual(view.deeds(), [])
        for turn in (view.undo, view.redo):
            with self.assertRaises(NothingLeft):
                turn()
        self.assertEqual(view, View(sheet, high=high, wide=wide))

    def test_left_out(self):
        self.check(View(Sheet()), Sheet(), 10, 30)
        self.check(View(Sheet(), high=7), Sheet(), 7, 30)
        self.check(View(Sheet(), wide=7), Sheet(), 10, 7)

    def test_names_in_any_order(self):
        given = {"sheet": Sheet(5, 4), "high": 3, "wide": 9}
        for names in itertools.permutations(given):
            self.check(View(**{name: given[name] for name in names}), Sheet(5, 4), 3, 9)
        self.check(View(Sheet(5, 4), wide=9, high=3), Sheet(5, 4), 3, 9)

    def test_behind_the_star_by_name_alone(self):
        with self.assertRaises(TypeError):
            View(Sheet(), 10)

    def test_every_screen(self):
        for high, wide in itertools.product(range(-1, 33), range(-1, 63)):
            if 1 <= high <= 30 and 1 <= wide <= 60:
                self.assertEqual(View(Sheet(), high=high, wide=wide).size(), (high, wide))
            else:
                with self.assertRaises(BadScreen):
                    View(Sheet(), high=high, wide=wide)

    def test_far_screens(self):
        for far in (FAR, -FAR, 1000):
            for high, wide in ((far, 30), (10, far), (far, far)):
                with self.assertRaises(BadScreen):
                    View(Sheet(), high=high, wide=wide)

    def test_of_sheets_with_deeds(self):
        for deeds in ([("merge", 0, 0, 2, 2), ("text", 0, 0, "x")], [("hide", "row", 0, 5)],
                      [("hide", "column", 0, 4)]):
            sheet = Sheet(5, 4)
            for deed in deeds:
                sheet.do(deed)
            self.check(View(sheet), sheet, 10, 30)

    def test_first_drawing(self):
        view = view_of(3, 3, wide=2, screen=(4, 8))
        self.assertEqual(view.drawing(), ["      ~~"] * 3 + ["~~~~~~~~"])
        self.assertEqual(view.laid(), [])
        self.assertEqual(view.steps(), [("put", 0, 6, "~~"), ("put", 1, 6, "~~"), ("put", 2, 6, "~~"),
                                        ("put", 3, 0, "~~~~~~~~")])
        sheet = Sheet(9, 9, wide=3)
        for deed in (("text", 2, 1, "ab"), ("text", 0, 1, "c d"), ("text", 8, 8, "far"), ("merge", 2, 1, 2, 2)):
            sheet.do(deed)
        view = View(sheet, high=4, wide=9)
        self.assertEqual(view.laid(), [(0, 1, 1, 1), (2, 1, 2, 2)])
        self.assertEqual(view.steps(), [("put", 0, 3, "c"), ("put", 0, 5, "d"), ("put", 2, 3, "ab")])
        self.assertEqual(len(view), 2)

    def test_names_of_the_class(self):
        self.assertEqual(module.View.__module__, "gridscope.view")
        for name in ("__eq__", "__len__", "__repr__", "__str__", "do", "look", "together", "undo", "redo", "deeds",
                     "sheet",
                     "size", "hold", "scroll", "caret", "drawing", "laid", "steps", "point", "hit", "places", "twin"):
            self.assertIn(name, vars(View))


class Shown(unittest.TestCase):
    def test_repr(self):
        self.assertEqual(repr(View(Sheet())), "View 10 30")
        self.assertEqual(repr(View(Sheet(3, 3), high=1, wide=60)), "View 1 60")
        self.assertEqual(repr(view_of(3, 3, [("screen", 30, 1)])), "View 30 1")

    def test_str(self):
        view = view_of(3, 3, [("text", 1, 0, "ab")], wide=2, screen=(4, 7))
        self.assertEqual(str(view), "      ~\nab    ~\n      ~\n~~~~~~~")
        self.assertEqual(str(view_of(3, 3, screen=(1, 3))), "   ")

    def test_len(self):
        deeds = [("text", row, column, "x") for row in range(5) for column in range(5)]
        view = view_of(5, 5, deeds, wide=2, screen=(3, 5))
        self.assertEqual(len(view), 9)
        for deed, due in ((("screen", 3, 6), 9), (("screen", 3, 7), 12), (("screen", 30, 60), 25),
                          (("hide", "row", 0, 2), 15),
                          (("merge", 2, 0, 2, 2), 12), (("hide", "column", 0, 5), 0), (("hide", "row", 0, 5), 0)):
            view.do(deed)
            self.assertEqual(len(view), due)
        self.assertEqual(len(View(Sheet())), 0)


class SheetsApart(unittest.TestCase):
    def test_the_sheet_handed_in_stays(self):
        sheet = Sheet(6, 5)
        for deed in BEGUN + OTHER_DEEDS[:12]:
            view = View(sheet)
            refused(view.do, deed)
            self.assertEqual(sheet, Sheet(6, 5))

    def test_a_later_change_of_it_changes_nothing(self):
        sheet = Sheet(6, 5)
        view = View(sheet)
        kept = told(view)
        for deed in (("text", 0, 0, "x"), ("merge", 0, 0, 2, 2), ("put", "row", 0, 3), ("hide", "column", 0, 2)):
            sheet.do(deed)
            self.assertEqual(told(view), kept)

    def test_the_sheet_told_is_a_twin(self):
        view = view_of(6, 5, BEGUN)
        kept = told(view)
        sheet = view.sheet()
        self.assertIsNot(sheet, view.sheet())
        for deed in (("text", 0, 0, "y"), ("put", "row", 0, 3), ("hide", "column", 0, 2)):
            sheet.do(deed)
        self.assertEqual(told(view), kept)
        sheet = view.sheet()
        view.do(("text", 0, 0, "z"))
        self.assertEqual(sheet.text(0, 0), "first")

    def test_two_views_of_one_sheet(self):
        sheet = Sheet(6, 5)
        sheet.do(("text", 0, 0, "both"))
        one, other = View(sheet), View(sheet, high=5, wide=9)
        kept = told(other)
        for deed in BEGUN:
            one.do(deed)
            self.assertEqual(told(other), kept)
        self.assertEqual((one.sheet().text(0, 0), other.sheet().text(0, 0), sheet.text(0, 0)),
                         ("first", "both", "both"))
        self.assertEqual(View(sheet), View(sheet))


class Equal(unittest.TestCase):
    def check_equal(self, one, other):
        for left, right in ((one, other), (other, one)):
            self.assertIs(left == right, True)
            self.assertIs(left != right, False)

    def check_other(self, one, other):
        for left, right in ((one, other), (other, one)):
            self.assertIs(left == right, False)
            self.assertIs(left != right, True)

    def test_the_same(self):
        self.check_equal(View(Sheet()), View(Sheet(), high=10, wide=30))
        self.check_equal(view_of(6, 5, BEGUN), view_of(6, 5, BEGUN))
        view = view_of(6, 5, BEGUN)
        self.check_equal(view, view)

    def test_one_thing_is_other(self):
        for deed in OTHER_DEEDS:
            self.check_other(view_of(6, 5, BEGUN), view_of(6, 5, BEGUN + [deed]))

    def test_deeds_and_what_was_laid_do_not_count(self):
        for more in ([("scroll", 1, 3), ("scroll", 2, 3)], [("text", 0, 0, "x"), ("text", 0, 0, "first")],
                     [("all", ())],
                     [("hold", 1, 1)], [("hide", "row", 5, 1), ("show", "row", 5, 1)],
                     [("put", "row", 6, 3), ("cut", "row", 6, 3)]):
            self.check_equal(view_of(6, 5, BEGUN), view_of(6, 5, BEGUN + more))
        view = view_of(6, 5, BEGUN + [("text", 0, 0, "x")])
        view.undo()
        self.check_equal(view, view_of(6, 5, BEGUN))
        sheet = view_of(6, 5, BEGUN[:7]).sheet()
        other = View(sheet, high=6, wide=15)
        for deed in BEGUN[7:]:
            other.do(deed)
        self.check_equal(view, other)

    def test_another_kind(self):
        view = View(Sheet(5, 4))
        for other in (0, 1, None, True, False, "", "View 10 30", b"", (), [], {}, set(), object(), View, Sheet(5, 4),
                      view.sheet(), view.drawing(), str(view), repr(view)):
            self.check_other(view, other)
        self.assertIs(view == AlwaysEqual(), False)


class Twins(ComparedViews):
    def test_alike(self):
        view, plain = view_pair(6, 5, BEGUN)
        view.undo()
        view.undo()
        plain.undo()
        plain.undo()
        twin = view.twin()
        self.assertIs(type(twin), View)
        self.assertIsNot(twin, view)
        self.assertEqual(twin, view)
        self.check_told(twin, plain)
        # To take back and to do again, too.
        for word in ("redo", "redo", "redo", *["undo"] * (len(BEGUN) + 1), "redo"):
            self.check_turn(twin, plain, word)

    def test_at_first(self):
        sheet = Sheet(4, 4)
        sheet.do(("text", 0, 0, "x"))
        view = View(sheet, high=3, wide=5)
        twin = view.twin()
        self.assertEqual(told(twin), told(view))
        self.assertEqual((twin.laid(), twin.steps()), ([(0, 0, 1, 1)], [("put", 0, 0, "x")]))

    def test_on_their_own(self):
        for step in OTHER_DEEDS + ["undo", "redo"]:
            for changed in (0, 1):
                view = view_of(6, 5, BEGUN + [("text", 5, 0, "back")])
                view.undo()
                both = (view, view.twin())
                kept = told(both[1 - changed])
                if step in ("undo", "redo"):
                    getattr(both[changed], step)()
                else:
                    both[changed].do(step)
                self.assertEqual(told(both[1 - changed]), kept)
                self.assertNotEqual(both[0], both[1])
                self.assertEqual(both[1 - changed].redo(), ("text", 5, 0, "back"))
                self.assertEqual(both[1 - changed].undo(), ("text", 5, 0, "back"))
                self.assertEqual(both[1 - changed].undo(), BEGUN[-1])

    def test_of_a_great_sheet(self):
        view = View(Sheet(1000000, 1000))
        view.do(("scroll", 999990, 5970))
        twin = view.twin()
        self.assertEqual(twin, view)
        twin.do(("scroll", 0, 0))
        self.assertEqual(view.scroll(), (999990, 5970))


class Told(ComparedViews):
    def test_lists_are_new(self):
        view, plain = view_pair(6, 5, BEGUN + [("text", 4, 1, "more")])
        for ask in (view.deeds, view.drawing, view.laid, view.steps, lambda: view.places(1, 1)):
            given = ask()
            self.assertIs(type(given), list)
            self.assertNotEqual(given, [])
            given.append("x")
            given[0] = "y"
            self.assertIsNot(given, ask())
            self.check_told(view, plain)
        given = (view.deeds(), view.drawing(), view.laid(), view.steps(), view.places(1, 1))
        kept = tuple(list(each) for each in given)
        view.do(("scroll", 0, 0))
        view.do(("text", 0, 0, "z"))
        self.assertEqual(given, kept)

    def test_lists_handed_in_stay(self):
        view = View(Sheet(6, 5))
        deeds = [("text", 0, 0, "a"), ("text", 1, 1, "b")]
        view.together(deeds)
        self.assertEqual(deeds, [("text", 0, 0, "a"), ("text", 1, 1, "b")])
        kept = told(view)
        deeds.clear()
        self.assertEqual(told(view), kept)
        self.assertEqual(view.undo(), ("all", (("text", 0, 0, "a"), ("text", 1, 1, "b"))))
        self.assertEqual(view.redo(), ("all", (("text", 0, 0, "a"), ("text", 1, 1, "b"))))

    def test_kinds(self):
        view = view_of(6, 5, BEGUN + [("scroll", 0, 0), ("scroll", 1, 0)])
        for pair in (view.size(), view.hold(), view.scroll(), view.caret(), view.point(0, 0)):
            self.assertIs(type(pair), tuple)
            self.assertEqual([type(number) for number in pair], [int, int])
        for each in [*view.laid(), *view.steps(), *view.deeds(), *view.places(1, 1), view.hit(0, 0)]:
            self.assertIs(type(each), tuple)
        self.assertEqual({type(row) for row in view.drawing()}, {str})
        self.assertIs(type(view.sheet()), Sheet)

    def test_questions_change_nothing(self):
        view, plain = view_pair(6, 5, BEGUN + [("text", 4, 1, "more"), ("scroll", 1, 1)])
        view.undo()
        plain.undo()
        for _ in range(3):
            self.check_told(view, plain)
            (len(view), str(view), repr(view), view.twin(), view == view.twin())
            for ask, cell in ((view.point, (-1, 0)), (view.hit, (0, 99)), (view.places, (6, 0))):
                refused(ask, *cell)
        self.check_turn(view, plain, "redo")

    def test_refused_questions(self):
        view = view_of(6, 5, BEGUN)
        for v, u in ((-1, 0), (0, -1), (6, 0), (0, 15), (6, 15), (FAR, 0), (0, -FAR)):
            for ask in (view.point, view.hit):
                with self.assertRaises(NoPlace):
                    ask(v, u)
        for row, column in ((-1, 0), (0, -1), (6, 0), (0, 5), (FAR, 0), (0, -FAR)):
            with self.assertRaises(NoCell):
                view.places(row, column)

    def test_by_names(self):
        view = view_of(6, 5, BEGUN)
        self.assertEqual(view.point(u=2, v=1), view.point(1, 2))
        self.assertEqual(view.hit(u=2, v=1), view.hit(1, 2))
        self.assertEqual(view.places(column=2, row=1), view.places(1, 2))
        self.assertIsNone(view.do(deed=("text", 0, 0, "")))
        self.assertIsNone(view.together(deeds=[]))

    def test_every_deed_tells_none(self):
        view = View(Sheet(6, 5))
        for deed in BEGUN:
            self.assertIsNone(view.do(deed))
        for deed in OTHER_DEEDS:
            self.assertIsNone(view.twin().do(deed))
        self.assertIsNone(view.look(0, 0))
        self.assertIsNone(view.together(()))


if __name__ == "__main__":
    unittest.main()
