"""Drawings of a view, and the boxes laid for them: points [7], [8] and [9]."""

import itertools
import random
import unittest

from compared_views import ComparedViews, view_of, view_pair
from gridscope.sheet import Sheet
from gridscope.view import View
from plain_text import LOOKS, some_text

LETTERS = "ABCDEFGHIJKLMNOPQRSTUVWXYZ"


def named_cells(rows, columns):
    """A text for each cell that tells its row and column."""
    return [("text", row, column, LETTERS[row] + str(column)) for row in range(rows) for column in range(columns)]


def signs_by_points(view):
    """The drawing by asking the sheet for the sign of each place's point."""
    sheet, (high, wide) = view.sheet(), view.size()
    return ["".join(sheet.sign(*view.point(v, u)) for u in range(wide)) for v in range(high)]


class ByHand(unittest.TestCase):
    def test_texts(self):
        view = view_of(4, 4, named_cells(4, 4), wide=3, screen=(3, 8))
        self.assertEqual(view.drawing(), ["A0 A1 A2", "B0 B1 B2", "C0 C1 C2"])

    def test_scrolled(self):
        view = view_of(4, 4, named_cells(4, 4) + [("scroll", 1, 2)], wide=3, screen=(3, 8))
        self.assertEqual(view.drawing(), [" B1 B2 B", " C1 C2 C", " D1 D2 D"])

    def test_held(self):
        view = view_of(4, 4, named_cells(4, 4) + [("hold", 1, 1), ("scroll", 1, 2)], wide=3, screen=(3, 8))
        self.assertEqual(view.drawing(), ["A0  A2 A", "C0  C2 C", "D0  D2 D"])

    def test_beyond(self):
        view = view_of(2, 2, named_cells(2, 2), wide=3, screen=(3, 8))
        self.assertEqual(view.drawing(), ["A0 A1 ~~", "B0 B1 ~~", "~~~~~~~~"])

    def test_sizes_and_hidden_ones(self):
        deeds = [("size", "row", 1, 2), ("hide", "row", 0, 1), ("size", "column", 0, 1), ("hide", "column", 1, 1)]
        view = view_of(4, 4, named_cells(4, 4) + deeds, wide=3, screen=(5, 6))
        self.assertEqual(view.drawing(), ["BB2 B3", "      ", "CC2 C3", "DD2 D3", "~~~~~~"])

    def test_a_merged_box_part_by_part(self):
        deeds = [("merge", 1, 1, 3, 3), ("text", 1, 1, "one two three"), ("look", 1, 1, "middle", "middle", True)]
        view = view_of(6, 6, deeds, wide=2, screen=(3, 4))
        # Six signs wide: the lines are "one", "two", "three", one on each of its rows.
        for scroll, due in (((0, 0), ["    ", "   o", "   t"]), ((1, 2), [" one", " two", "thre"]),
                            ((2, 4), ["wo  ", "ree ", "    "]),
                            ((3, 8), ["    ", "    ", "    "])):
            view.do(("scroll", *scroll))
            self.assertEqual(view.drawing(), due)

    def test_a_held_row_through_a_merged_box(self):
        deeds = [("merge", 0, 0, 3, 1), ("text", 0, 0, "a b c"), ("look", 0, 0, "left", "top", True), ("hold", 1, 0)]
        view = view_of(6, 6, deeds + [("scroll", 1, 0)], wide=1, screen=(3, 2))
        self.assertEqual(view.drawing(), ["a ", "c ", "  "])

    def test_all_hidden(self):
        view = view_of(3, 3, named_cells(3, 3) + [("hide", "row", 0, 3)], screen=(2, 4))
        self.assertEqual(view.drawing(), ["~~~~", "~~~~"])
        view = view_of(3, 3, named_cells(3, 3) + [("hide", "column", 0, 3)], screen=(2, 4))
        self.assertEqual(view.drawing(), ["~~~~", "~~~~"])

    def test_a_text_of_signs_like_those_beyond(self):
        self.assertEqual(view_of(1, 1, [("text", 0, 0, "~ ~")], wide=4, screen=(1, 6)).drawing(), ["~ ~ ~~"])

    def test_the_held_rows_take_all(self):
        deeds = named_cells(4, 4) + [("size", "row", 0, 5), ("size", "column", 0, 9), ("hold", 1, 1)]
        view = view_of(4, 4, deeds, wide=3, screen=(3, 8))
        self.assertEqual(view.drawing(), ["A0      ", "        ", "        "])


class Drawings(ComparedViews):
    def test_every_scroll_and_hold(self):
        deeds = named_cells(5, 5) + [("merge", 1, 1, 2, 2), ("merge", 0, 3, 3, 1), ("size", "row", 2, 3),
                                     ("hide", "column", 2, 1)]
        for rows, columns in itertools.product(range(0, 4), repeat=2):
            view, plain = view_pair(5, 5, deeds + [("hold", rows, columns)], wide=3, screen=(5, 7))
            for down, across in itertools.product(range(plain.stand.greatest(0) + 1),
                                                  range(plain.stand.greatest(1) + 1)):
                view.do(("scroll", down, across))
                plain.do(("scroll", down, across))
                self.assertEqual(view.drawing(), plain.stand.drawing())
                self.assertEqual(view.drawing(), signs_by_points(view))

    def test_every_screen(self):
        deeds = named_cells(4, 4) + [("merge", 1, 1, 2, 2), ("size", "row", 0, 2), ("hold", 1, 1)]
        view, plain = view_pair(4, 4, deeds, wide=3)
        for high, wide in itertools.product(range(1, 9), range(1, 16)):
            view.do(("screen", high, wide))
            plain.do(("screen", high, wide))
            self.assertEqual(view.drawing(), plain.stand.drawing())

    def test_every_look(self):
        for look in LOOKS:
            deeds = [("merge", 1, 1, 3, 2), ("text", 1, 1, "of several words and a longlonglong one"),
                     ("look", 1, 1, *look)]
            view, plain = view_pair(5, 5, deeds + [("hold", 0, 2)], wide=4, screen=(3, 10))
            for down, across in itertools.product(range(3), range(11)):
                view.do(("scroll", down, across))
                plain.do(("scroll", down, across))
                self.assertEqual(view.drawing(), plain.stand.drawing())

    def test_by_chance_like_the_sheet(self):
        for seed in range(60):
            chance = random.Random(seed)
            sheet = Sheet(40, 40, high=chance.randint(1, 4), wide=chance.randint(1, 9))
            for _ in range(50):
                cell = (chance.randrange(40), chance.randrange(40))
                sheet.do(("text", *cell, some_text(chance)))
                sheet.do(("look", *cell, *chance.choice(LOOKS)))
            for number in range(8):
                sheet.do(("merge", number * 5, chance.randrange(35), chance.randint(2, 5), chance.randint(1, 5)))
                sheet.do(("size", chance.choice(("row", "column")), chance.randrange(40), chance.randint(1, 9)))
                sheet.do(("hide", chance.choice(("row", "column")), chance.randrange(40), 1))
            view = View(sheet, high=chance.randint(1, 30), wide=chance.randint(1, 60))
            view.do(("hold", chance.randint(0, 3), chance.randint(0, 3)))
            for _ in range(3):
                view.do(("caret", chance.randrange(40), chance.randrange(40)))
                self.assertEqual(view.drawing(), signs_by_points(view))


class StillAndShown(unittest.TestCase):
    def test_what_is_held_stands_still(self):
        view = view_of(7, 7, named_cells(7, 7) + [("hold", 2, 1), ("size", "row", 1, 2)], wide=3, screen=(6, 9))
        sheet, first = view.sheet(), view.drawing()
        for down, across in itertools.product(range(3), range(13)):
            view.do(("scroll", down, across))
            now = view.drawing()
            self.assertEqual([row[:3] for row in now[:3]], [row[:3] for row in first[:3]])
            # Held rows go across alone, held columns down alone.
            self.assertEqual([row[3:] for row in now[:3]],
                             ["".join(sheet.sign(v, u + across) for u in range(3, 9)) for v in range(3)])
            self.assertEqual([row[:3] for row in now[3:]],
                             ["".join(sheet.sign(v + down, u) for u in range(3)) for v in range(3, 6)])

    def test_all_scrolls_show_the_sheet(self):
        for hold in ((0, 0), (1, 1), (2, 0), (0, 2)):
            view = view_of(7, 5, named_cells(7, 5) + [("hold", *hold), ("hide", "row", 3, 1)], wide=3, screen=(4, 8))
            shown = set()
            for down, across in itertools.product(range(6 - 4 + 1), range(15 - 8 + 1)):
                view.do(("scroll", down, across))
                self.assertNotIn("~", str(view))
                shown.update(view.point(v, u) for v in range(4) for u in range(8))
            self.assertEqual(shown, set(itertools.product(range(6), range(15))))

    def test_far_rows_as_near_ones(self):
        deeds = [("text", 3, 2, "a text of words"), ("look", 3, 2, "middle", "middle", True), ("merge", 3, 2, 3, 2),
                 ("size", "row", 6, 3), ("hide", "column", 5, 1), ("text", 7, 4, "end")]
        near = view_of(1000000, 1000, deeds, wide=5)
        far = view_of(1000000, 1000, [(*deed[:1], *moved(deed)) for deed in deeds], wide=5)
        far.do(("scroll", 900000, 4500))
        for down, across in itertools.product((0, 1, 2, 5), (0, 3, 7)):
            near.do(("scroll", down, across))
            far.do(("scroll", 900000 + down, 4500 + across))
            self.assertEqual(far.drawing(), near.drawing())
            self.assertEqual(far.steps(), near.steps())
            self.assertEqual(far.laid(), [(box[0] + 900000, box[1] + 900, *box[2:]) for box in near.laid()])

    def test_the_last_rows(self):
        view = view_of(1000000, 1000, [("text", 999999, 999, "end"), ("caret", 999999, 999)])
        self.assertEqual(view.scroll(), (999990, 5970))
        self.assertEqual(view.drawing(), [" " * 30] * 9 + [" " * 24 + "end   "])
        view.do(("screen", 30, 60))
        self.assertEqual(view.scroll(), (999970, 5940))
        self.assertEqual(view.drawing(), [" " * 60] * 29 + [" " * 54 + "end   "])

    def test_a_great_merged_box(self):
        deeds = [("merge", 0, 0, 1000000, 1000), ("text", 0, 0, "ab cd"), ("look", 0, 0, "right", "bottom", True)]
        view = view_of(1000000, 1000, deeds, high=60, wide=60, screen=(2, 7))
        view.do(("scroll", 59999998, 59993))
        self.assertEqual(view.drawing(), ["       ", "  ab cd"])
        self.assertEqual(view.places(500000, 500), [(0, 0, 2, 7)])
        self.assertEqual((len(view), view.hit(0, 0)), (1, (0, 0, 1000000, 1000)))
        view.do(("look", 0, 0, "middle", "middle", False))
        view.do(("scroll", 29999999, 29994))
        self.assertEqual(view.drawing(), ["   ab c", "       "])


def moved(deed):
    """A deed's parts, far rows and columns for near ones."""
    word, *rest = deed
    if word in ("size", "hide"):
        return (rest[0], rest[1] + (900000 if rest[0] == "row" else 900), *rest[2:])
    return (rest[0] + 900000, rest[1] + 900, *rest[2:])


class Laid(ComparedViews):
    """Which boxes are laid behind each deed."""

    BEGUN = [("text", 0, 0, "ab"), ("text", 1, 1, "cd"), ("text", 3, 2, "ef"), ("text", 8, 1, "gh"),
             ("merge", 3, 2, 2, 2),
             ("merge", 5, 0, 2, 2), ("text", 5, 0, "ij")]

    def check_laid(self, deeds, due, screen=(5, 12), wide=3):
        view, plain = view_pair(10, 8, self.BEGUN + deeds, wide=wide, screen=screen)
        self.assertEqual(view.laid(), due)
        self.assertEqual(plain.laid(), due)

    def test_texts_and_looks(self):
        self.check_laid([("text", 0, 0, "xy")], [(0, 0, 1, 1)])
        self.check_laid([("text", 0, 0, "ab")], [])
        self.check_laid([("text", 2, 2, "new")], [(2, 2, 1, 1)])
        self.check_laid([("text", 0, 0, "")], [])
        self.check_laid([("text", 8, 1, "unseen")], [])
        self.check_laid([("look", 1, 1, "right", "top", False)], [(1, 1, 1, 1)])
        self.check_laid([("look", 2, 2, "right", "top", False)], [])
        self.check_laid([("look", 3, 2, "left", "top", False)], [])
        # Laid also where the signs come out the same.
        self.check_laid([("look", 1, 1, "left", "bottom", False)], [(1, 1, 1, 1)])
        self.check_laid([("look", 1, 1, "left", "top", True)], [(1, 1, 1, 1)])

    def test_boxes(self):
        self.check_laid([("merge", 0, 0, 1, 2)], [(0, 0, 1, 2)])
        self.check_laid([("merge", 0, 1, 2, 1)], [])
        self.check_laid([("part", 4, 3)], [(3, 2, 1, 1)])

    def test_sizes(self):
        self.check_laid([("size", "row", 0, 2)], [(0, 0, 1, 1), (3, 2, 2, 2)])
        self.check_laid([("size", "row", 2, 2)], [(3, 2, 2, 2)])
        self.check_laid([("size", "row", 9, 2)], [])
        self.check_laid([("size", "column", 1, 4)], [(1, 1, 1, 1), (3, 2, 2, 2)])
        self.check_laid([("hide", "row", 0, 1)], [(5, 0, 2, 2)])
        self.check_laid([("hide", "row", 2, 2)], [(3, 2, 2, 2), (5, 0, 2, 2)])
        self.check_laid([("hide", "row", 7, 1)], [])
        self.check_laid([("fit", "column", 0)], [(0, 0, 1, 1)])

    def test_put_and_cut(self):
        # Boxes behind have other numbers, and so are laid though their signs only go down.
        self.check_laid([("put", "row", 0, 1)], [(1, 0, 1, 1), (2, 1, 1, 1), (4, 2, 2, 2)])
        self.check_laid([("put", "row", 2, 1)], [(4, 2, 2, 2)])
        self.check_laid([("put", "row", 4, 1)], [(3, 2, 3, 2)])
        self.check_laid([("put", "row", 9, 1)], [])
        self.check_laid([("cut", "row", 0, 1)], [(0, 1, 1, 1), (2, 2, 2, 2), (4, 0, 2, 2)])
        self.check_laid([("cut", "row", 2, 1)], [(2, 2, 2, 2), (4, 0, 2, 2)])

    def test_another_box_at_the_same_place(self):
        # What stands there then hangs on the same as what stood there.
        deeds = [("text", row, 0, "same") for row in range(3)]
        view, plain = view_pair(10, 8, deeds + [("cut", "row", 0, 1)], screen=(5, 12))
        self.assertEqual(view.laid(), [])
        view, plain = view_pair(10, 8, deeds + [("put", "row", 0, 1)], screen=(5, 12))
        self.assertEqual(view.laid(), [(3, 0, 1, 1)])

    def test_scrolls(self):
        # A box of which the same part is seen isn't laid again.
        self.check_laid([("scroll", 1, 0)], [(5, 0, 2, 2)])
        self.check_laid([("scroll", 2, 0)], [(5, 0, 2, 2)])
        self.check_laid([("scroll", 4, 0)], [(3, 2, 2, 2), (5, 0, 2, 2), (8, 1, 1, 1)])
        self.check_laid([("scroll", 0, 1)], [(0, 0, 1, 1)])
        self.check_laid([("scroll", 0, 4)], [(1, 1, 1, 1)])
        self.check_laid([("scroll", 0, 0)], [])

    def test_holds(self):
        self.check_laid([("hold", 1, 1)], [])
        self.check_laid([("hold", 1, 1), ("scroll", 1, 3)], [(5, 0, 2, 2)])

    def test_screens(self):
        self.check_laid([("screen", 6, 12)], [(5, 0, 2, 2)])
        self.check_laid([("screen", 4, 12)], [(3, 2, 2, 2)])
        self.check_laid([("screen", 5, 4)], [(1, 1, 1, 1)])
        self.check_laid([("screen", 5, 13)], [])
        self.check_laid([("screen", 5, 12)], [])

    def test_caret(self):
        self.check_laid([("caret", 4, 3)], [])
        self.check_laid([("caret", 5, 0)], [(5, 0, 2, 2)])

    def test_several_as_one(self):
        self.check_laid([("all", (("text", 0, 0, "x"), ("text", 1, 1, "y")))], [(0, 0, 1, 1), (1, 1, 1, 1)])
        self.check_laid([("all", (("text", 0, 0, "x"), ("text", 0, 0, "ab")))], [])
        self.check_laid([("all", (("scroll", 4, 0), ("scroll", 0, 0)))], [])
        self.check_laid([("all", (("screen", 1, 1), ("screen", 5, 12)))], [])
        self.check_laid([("all", ())], [])

    def test_taken_back_and_done_again(self):
        view = view_of(10, 8, self.BEGUN + [("text", 0, 0, "xy")], wide=3, screen=(5, 12))
        for turn in (view.undo, view.redo):
            turn()
            self.assertEqual(view.laid(), [(0, 0, 1, 1)])
        view.do(("put", "row", 0, 1))
        view.undo()
        self.assertEqual(view.laid(), [(0, 0, 1, 1), (1, 1, 1, 1), (3, 2, 2, 2)])

    def test_stays_where_a_deed_is_refused(self):
        view = view_of(10, 8, self.BEGUN + [("text", 0, 0, "xy")], wide=3, screen=(5, 12))
        kept = (view.laid(), view.steps())
        for deed in (("text", 99, 0, "x"), ("scroll", -1, 0), ("go", "no", 1),
                     ("all", (("text", 1, 1, "x"), ("part", 0, 0))),
                     ("all", (("all", ()),)), ("screen", 0, 0), ("hold", 9, 9), ("size", "no", 0, 1)):
            with self.assertRaises((ValueError, LookupError)):
                view.do(deed)
            self.assertEqual((view.laid(), view.steps()), kept)
        with self.assertRaises(IndexError):
            view.redo()
        self.assertEqual((view.laid(), view.steps()), kept)

    def test_nothing_unseen_is_laid(self):
        view = view_of(1000000, 1000, [("text", row * 1000, row, "far " * 9) for row in range(60)])
        self.assertEqual(len(view), 1)
        for row in (1, 30, 59):
            view.do(("caret", row * 1000, row))
            self.assertEqual((len(view), view.laid()), (1, [(row * 1000, row, 1, 1)]))
        view.do(("scroll", 500, 0))
        self.assertEqual((len(view), view.laid()), (0, []))


if __name__ == "__main__":
    unittest.main()
