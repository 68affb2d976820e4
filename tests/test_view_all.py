"""Several deeds as one, and looks and several by name: points [1], [15] and [17]."""

import inspect
import itertools
import unittest

from compared_views import ComparedViews, view_of, view_pair
from gridscope.errors import BadDeed, BadLook, BadStep, Inside, NoCell
from gridscope.sheet import Sheet
from gridscope.view import View
from plain_text import HEIGHTS, LOOKS, SIDES
from plain_view import refused, told

BEGUN = [("text", 0, 0, "first"), ("merge", 1, 1, 2, 2), ("text", 1, 1, "box"), ("hold", 1, 1), ("screen", 4, 9),
         ("caret", 3, 3), ("scroll", 1, 4)]
SOME = (("text", 3, 0, "a"), ("put", "row", 0, 1), ("text", 4, 0, "b"), ("go", "up", 2), ("hide", "column", 2, 1),
        ("scroll", 0, 2), ("screen", 5, 8), ("hold", 0, 2))
# A deed that is refused behind BEGUN for each class that there is.
REFUSED = [
    (("size", "row", 0, 61), "BadSize"), (("merge", 0, 0, 1, 1), "BadMany"), (("go", "up", 100), "BadMany"),
    (("text", 0, 0, "x" * 41), "BadText"), (("look", 0, 0, "no", "top", True), "BadLook"),
    (("fit", "no", 0), "BadAxis"),
    (("hold", 6, 0), "BadHold"), (("screen", 31, 1), "BadScreen"), (("scroll", -1, 0), "BadScroll"),
    (("go", "no", 1), "BadWay"),
    (("part", 0, 0), "NotMerged"), (("text", 2, 2, "x"), "Inside"), (("merge", 0, 0, 2, 2), "Overlap"),
    (("caret", 5, 0), "NoCell"), (("cut", "row", 5, 1), "NoIndex"), (("put", "column", 0, 1000), "Full"),
]


class Together(ComparedViews):
    def test_like_one_behind_the_other(self):
        for many in range(len(SOME) + 1):
            one, other = view_of(5, 5, BEGUN), view_of(5, 5, BEGUN)
            one.do(("all", SOME[:many]))
            for deed in SOME[:many]:
                other.do(deed)
            self.assertEqual(one, other)
            self.assertEqual(one.drawing(), other.drawing())
            self.assertEqual(one.deeds(), BEGUN + [("all", SOME[:many])])

    def test_one_deed(self):
        view, plain = view_pair(5, 5, BEGUN)
        self.check(view, plain, ("all", SOME))
        self.check_turn(view, plain, "undo")
        self.assertEqual(view, view_of(5, 5, BEGUN))
        self.check_turn(view, plain, "redo")
        self.check_turn(view, plain, "undo")
        self.check_turn(view, plain, "undo")
        self.assertEqual(view, view_of(5, 5, BEGUN[:-1]))

    def test_none(self):
        view, plain = view_pair(5, 5, BEGUN)
        self.assertIsNone(self.check(view, plain, ("all", ())))
        self.assertEqual((view.laid(), view.steps()), ([], []))
        self.assertEqual(view.undo(), ("all", ()))
        self.assertEqual(view, view_of(5, 5, BEGUN))

    def test_laid_and_steps_between_the_first_and_the_last(self):
        view, plain = view_pair(5, 5, [("text", 0, 0, "abc"), ("text", 1, 0, "def")])
        self.check(view, plain, ("all", (("text", 0, 0, "xxx"), ("text", 1, 0, "dxf"), ("text", 0, 0, "abc"))))
        self.assertEqual((view.laid(), view.steps()), ([(1, 0, 1, 1)], [("put", 1, 1, "x")]))

    def test_done_again_is_over_then(self):
        view = view_of(5, 5, BEGUN)
        view.undo()
        view.do(("all", ()))
        with self.assertRaises(IndexError):
            view.redo()


class Refused(ComparedViews):
    def test_every_class(self):
        for deed, word in REFUSED:
            for where in range(3):
                deeds = [("text", 4, 4, "good")] * 3
                deeds[where] = deed
                view, plain = view_pair(5, 5, BEGUN)
                kept = told(view)
                with self.assertRaises(BadStep) as caught:
                    view.do(("all", tuple(deeds)))
                self.assertEqual((caught.exception.where, caught.exception.word), (where, word))
                self.assertIs(type(caught.exception.where), int)
                self.assertEqual(told(view), kept)
                self.assertEqual(self.check(view, plain, ("all", tuple(deeds))), "BadStep")

    def test_alone_they_are_refused_by_their_class(self):
        for deed, word in REFUSED:
            view = view_of(5, 5, BEGUN)
            kept = told(view)
            self.assertEqual(refused(view.do, deed)[0], word)
            self.assertEqual(told(view), kept)

    def test_refused_by_what_was_done_ahead(self):
        for deeds, where, word in (
            ((("put", "row", 0, 1), ("text", 5, 0, "x"), ("text", 6, 0, "x")), 2, "NoCell"),
            ((("part", 1, 1), ("text", 2, 2, "x"), ("part", 1, 1)), 2, "NotMerged"),
            ((("screen", 30, 60), ("scroll", 0, 0), ("scroll", 1, 0)), 2, "BadScroll"),
            ((("cut", "row", 0, 4), ("hold", 2, 0)), 1, "BadHold"),
        ):
            view, plain = view_pair(5, 5, BEGUN)
            self.assertEqual(refused(view.do, ("all", deeds)), ("BadStep", (where, word)))
            self.assertEqual(self.check(view, plain, ("all", deeds)), "BadStep")

    def test_the_first_one_counts(self):
        view = view_of(5, 5, BEGUN)
        self.assertEqual(refused(view.do, ("all", (("caret", 0, 0), ("part", 0, 0), ("caret", 9, 9)))),
                         ("BadStep", (1, "NotMerged")))

    def test_an_all_within(self):
        within = ("all", (("text", 0, 0, "x"),))
        for deeds in ((within,), (("all", ()),), (("text", 0, 0, "x"), within), (within, ("text", 0, 0, "x")),
                      (("text", 9, 9, "refused"), within), (("go", "no", 0), ("all", ()), ("go", "no", 0))):
            view, plain = view_pair(5, 5, BEGUN)
            kept = told(view)
            with self.assertRaises(BadDeed):
                view.do(("all", deeds))
            self.assertEqual(told(view), kept)
            self.assertEqual(self.check(view, plain, ("all", deeds)), "BadDeed")

    def test_what_can_be_done_again_stays(self):
        view = view_of(5, 5, BEGUN)
        view.undo()
        for deeds in ((("text", 0, 0, "x"), ("part", 0, 0)), (("all", ()),)):
            refused(view.do, ("all", deeds))
        self.assertEqual(view.redo(), BEGUN[-1])


class ByName(unittest.TestCase):
    def test_together(self):
        for deeds in (list(SOME), SOME, [], ()):
            one, other = view_of(5, 5, BEGUN), view_of(5, 5, BEGUN)
            self.assertIsNone(one.together(deeds))
            other.do(("all", tuple(deeds)))
            self.assertEqual(told(one), told(other))
            self.assertEqual(one.undo(), ("all", tuple(deeds)))

    def test_together_refused(self):
        view = view_of(5, 5, BEGUN)
        kept = told(view)
        with self.assertRaises(BadStep) as caught:
            view.together([("text", 0, 0, "x"), ("caret", 5, 0)])
        self.assertEqual((caught.exception.where, caught.exception.word), (1, "NoCell"))
        with self.assertRaises(BadDeed):
            view.together([("all", ())])
        self.assertEqual(told(view), kept)

    def test_looks(self):
        for side, height, wrap in LOOKS:
            one, other = view_of(5, 5, BEGUN), view_of(5, 5, BEGUN)
            one.look(1, 1, wrap=wrap, height=height, side=side)
            other.do(("look", 1, 1, side, height, wrap))
            self.assertEqual(told(one), told(other))
            self.assertEqual(one.undo(), ("look", 1, 1, side, height, wrap))

    def test_looks_left_out(self):
        given = {"side": "right", "height": "bottom", "wrap": True}
        plain = {"side": "left", "height": "top", "wrap": False}
        for many in range(4):
            for names in itertools.permutations(given, many):
                view = view_of(5, 5, BEGUN)
                view.look(0, 0, **{name: given[name] for name in names})
                look = {**plain, **{name: given[name] for name in names}}
                self.assertEqual(view.sheet().look(0, 0), (look["side"], look["height"], look["wrap"]))
                self.assertEqual(view.deeds()[-1], ("look", 0, 0, look["side"], look["height"], look["wrap"]))

    def test_looks_by_name_alone(self):
        view = view_of(5, 5)
        with self.assertRaises(TypeError):
            view.look(0, 0, "left")
        self.assertIsNone(view.look(column=1, row=0, side="right"))
        self.assertEqual(view.sheet().look(0, 1), ("right", "top", False))

    def test_looks_refused(self):
        view = view_of(5, 5, BEGUN)
        kept = told(view)
        for cell in ((5, 0), (0, 5), (-1, 0)):
            with self.assertRaises(NoCell):
                view.look(*cell, side="no")
        for given in ({"side": "top"}, {"height": "left"}, {"side": ""}, {"height": "Middle"}):
            for cell in ((0, 0), (2, 2)):
                with self.assertRaises(BadLook):
                    view.look(*cell, **given)
        with self.assertRaises(Inside) as caught:
            view.look(2, 2)
        self.assertEqual(caught.exception.taken, (1, 1, 2, 2))
        self.assertEqual(told(view), kept)

    def test_defaults(self):
        told = {name: each.default for name, each in inspect.signature(View.look).parameters.items()}
        self.assertEqual({name: told[name] for name in ("side", "height", "wrap")},
                         {"side": "left", "height": "top", "wrap": False})
        self.assertEqual((SIDES[0], HEIGHTS[0]), ("left", "top"))

    def test_full_of_looks(self):
        view = View(Sheet(9, 9))
        for number in range(60):
            view.look(number // 9, number % 9, wrap=True)
        self.assertEqual(refused(view.do, ("look", 8, 8, "right", "top", True)), ("Full", None))
        self.assertIsNone(view.look(8, 8))


if __name__ == "__main__":
    unittest.main()
