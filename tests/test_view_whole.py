"""What holds over the whole program: rows and columns exchanged, refusals apart, fitted texts whole, boxes as cells.

Points [1], [4], [5], [6], [7] and [15]."""

import itertools
import random
import unittest

from compared_views import view_of, view_pair
from gridscope import errors
from gridscope.sheet import Sheet
from gridscope.view import View
from plain_text import LOOKS, plain_words, some_text
from plain_view import refused, told
from test_view_caret import exchanged
from test_view_runs import some_deed

AXES = ("row", "column")
FAR = 10 ** 29


def turned_box(box):
    return box and (box[1], box[0], box[3], box[2])


class Exchanged(unittest.TestCase):
    """A sheet with rows for columns is seen as the other one, but for the texts' own ways."""

    def check_alike(self, one, other):
        (high, wide), cells = one.size(), list(itertools.product(range(one.sheet().rows().many),
                                                                 range(one.sheet().columns().many)))
        for ask in ("size", "hold", "scroll", "caret"):
            self.assertEqual(getattr(one, ask)(), getattr(other, ask)()[::-1], ask)
        for v, u in itertools.product(range(high), range(wide)):
            self.assertEqual(one.point(v, u), other.point(u, v)[::-1])
            self.assertEqual(one.hit(v, u), turned_box(other.hit(u, v)))
        for row, column in cells:
            self.assertEqual(one.places(row, column), [turned_box(box) for box in other.places(column, row)])
        self.assertEqual(one.sheet().rows(), other.sheet().columns())
        self.assertEqual(one.sheet().columns(), other.sheet().rows())
        self.assertEqual(sorted(one.sheet().merged()), sorted(turned_box(box) for box in other.sheet().merged()))
        self.assertEqual([text[2] for text in sorted(one.sheet().texts())],
                         [text for column, row, text in sorted(other.sheet().texts(),
                                                               key=lambda each: (each[1], each[0]))])
        self.assertEqual(sorted(one.laid()), sorted(turned_box(box) for box in other.laid()))

    def test_by_chance(self):
        for seed in range(25):
            chance = random.Random(seed)
            one, plain = view_pair(6, 5, wide=2, screen=(5, 7))
            other = view_of(5, 6, high=2, wide=1, screen=(7, 5))
            for _ in range(25):
                deed = some_deed(chance, plain)
                # How a text is laid isn't the same down and across, nor how great a screen may be.
                if deed[0] in ("look", "fit") or deed[0] == "screen" and max(deed[1:]) > 30:
                    continue
                due = plain.do(deed)
                self.assertEqual(refused(one.do, deed), due)
                turned = refused(other.do, exchanged(deed))
                if due is None or due[0] != "Overlap":
                    self.assertEqual(turned, due and (due[0], turned_box(due[1])))
                else:
                    self.assertEqual(turned[0], "Overlap")
            self.check_alike(one, other)

    def test_laid_whole(self):
        # A text of one sign is laid alike in both.
        one = view_of(6, 6, [("text", row, column, "x") for row in range(6) for column in range(row)], wide=1,
                      screen=(5, 5))
        other = view_of(6, 6, [("text", column, row, "x") for row in range(6) for column in range(row)], wide=1,
                        screen=(5, 5))
        for deed in (("hold", 2, 1), ("scroll", 1, 0), ("merge", 3, 3, 2, 3), ("hide", "row", 1, 1),
                     ("go", "down", 9), ("put", "row", 3, 2)):
            one.do(deed)
            other.do(exchanged(deed))
            self.assertEqual(one.drawing(), ["".join(signs) for signs in zip(*other.drawing())])
            self.check_alike(one, other)


class RefusalsApart(unittest.TestCase):
    """Each refusal is of its own class, and of several the one named first goes."""

    FULL = [("text", number // 9, number % 9, "x") for number in range(60)]
    FULL += [("look", number // 9, number % 9, "right", "top", True) for number in range(60)]
    FULL += [("merge", number, 9, 1, 2) for number in range(20)]
    FULL += [("hide", "row", 20, 60), ("hide", "column", 20, 60)]

    CASES = [
        (("text", 100, 0, "x" * 41), "NoCell"), (("text", 0, 10, "x" * 41), "BadText"),
        (("text", 0, 10, "x"), "Inside"),
        (("text", 90, 0, "x" * 41), "BadText"), (("text", 90, 0, "x"), "Full"), (("text", -1, 0, "x"), "NoCell"),
        (("look", 0, 100, "no", "no", True), "NoCell"), (("look", 0, 10, "no", "top", True), "BadLook"),
        (("look", 0, 10, "left", "no", True), "BadLook"), (("look", 0, 10, "left", "top", True), "Inside"),
        (("look", 90, 0, "left", "top", True), "Full"), (("merge", 100, 0, 0, 0), "NoCell"),
        (("merge", 0, 9, 0, 200), "BadMany"),
        (("merge", 0, 9, 1, 1), "BadMany"), (("merge", 0, 9, 200, 1), "NoCell"), (("merge", 0, 9, 2, 2), "Overlap"),
        (("merge", 90, 90, 2, 2), "Full"), (("part", 100, 0), "NoCell"), (("part", 90, 0), "NotMerged"),
        (("size", "no", -1, 0), "BadAxis"), (("size", "row", -1, 0), "NoIndex"), (("size", "row", 99, 0), "BadSize"),
        (("size", "row", 99, 9), "Full"), (("common", "", 100), "BadAxis"), (("common", "column", 100), "NoIndex"),
        (("hide", "no", 100, 0), "BadAxis"), (("hide", "row", 100, 0), "NoIndex"), (("hide", "row", 99, 0), "BadMany"),
        (("hide", "row", 99, 2), "BadMany"), (("hide", "row", 99, 1), "Full"), (("show", "no", 100, 0), "BadAxis"),
        (("show", "row", 100, 0), "NoIndex"), (("show", "row", 99, 2), "BadMany"), (("put", "no", 101, 0), "BadAxis"),
        (("put", "row", 101, 0), "NoIndex"), (("put", "row", 100, 1001), "BadMany"),
        (("put", "column", 0, 901), "Full"),
        (("cut", "no", 100, 0), "BadAxis"), (("cut", "row", 100, 0), "NoIndex"), (("cut", "row", 0, 100), "BadMany"),
        (("cut", "row", 99, 2), "BadMany"), (("fit", "no", 100), "BadAxis"), (("fit", "row", 100), "NoIndex"),
        (("hold", 6, 0), "BadHold"), (("screen", 0, 0), "BadScreen"), (("scroll", FAR, 0), "BadScroll"),
        (("caret", 100, 0), "NoCell"), (("go", "no", 0), "BadWay"), (("go", "up", 0), "BadMany"),
        (("all", (("caret", 100, 0), ("all", ()))), "BadDeed"), (("all", (("caret", 100, 0),)), "BadStep"),
    ]

    def test_first_named(self):
        view = view_of(100, 100, self.FULL)
        kept = view.twin()
        for deed, due in self.CASES:
            with self.assertRaises((errors.GridError, errors.Missing, errors.Beyond)) as caught:
                view.do(deed)
            self.assertEqual(type(caught.exception).__name__, due, deed)
            self.assertEqual(view, kept)
        self.assertEqual(view.deeds(), self.FULL)

    def test_by_the_sheet_alone(self):
        sheet = view_of(100, 100, self.FULL).sheet()
        kept = sheet.twin()
        for deed, due in self.CASES:
            if deed[0] not in ("hold", "screen", "scroll", "caret", "go", "all"):
                self.assertEqual(refused(sheet.do, deed)[0], due, deed)
                self.assertEqual(sheet, kept)

    def test_again(self):
        view = view_of(100, 100, self.FULL)
        for _ in range(2):
            self.assertEqual([refused(view.do, deed)[0] for deed, _ in self.CASES], [due for _, due in self.CASES])

    def test_boxes_told(self):
        view = view_of(9, 9, [("merge", 2, 2, 2, 2), ("merge", 0, 4, 4, 1), ("merge", 5, 0, 1, 9)])
        for deed, box in ((("text", 3, 3, "x"), (2, 2, 2, 2)), (("look", 3, 4, "left", "top", True), (0, 4, 4, 1)),
                          (("merge", 0, 0, 9, 9), (0, 4, 4, 1)), (("merge", 3, 3, 3, 1), (2, 2, 2, 2)),
                          (("merge", 4, 8, 2, 1), (5, 0, 1, 9))):
            with self.assertRaises(errors.Boxed) as caught:
                view.do(deed)
            self.assertEqual(caught.exception.taken, box)
            self.assertIs(type(caught.exception.taken), tuple)


class FittedTexts(unittest.TestCase):
    def test_a_fitted_column_shows_a_text_whole(self):
        for seed in range(60):
            chance = random.Random(seed)
            texts = ["".join(chance.choice("abc d") for _ in range(chance.randint(1, 40))) for _ in range(4)]
            view = view_of(6, 3, [("text", row, 1, text) for row, text in enumerate(texts)] + [("fit", "column", 1)],
                           screen=(6, 60), wide=9)
            wide = view.sheet().columns().own(1)
            self.assertEqual(wide, max(map(len, texts)))
            self.assertEqual([row[9:9 + wide] for row in view.drawing()[:4]], [text.ljust(wide) for text in texts])

    def test_a_fitted_row_shows_all_words(self):
        for seed in range(60):
            chance = random.Random(seed)
            text, wide, side = some_text(chance), chance.randint(1, 20), chance.choice(("left", "middle", "right"))
            for height in ("top", "middle", "bottom"):
                deeds = [("text", 1, 0, text), ("look", 1, 0, side, height, True), ("size", "column", 0, wide),
                         ("fit", "row", 1)]
                view = view_of(3, 1, deeds, screen=(30, 60))
                high = view.sheet().rows().own(1)
                shown = "".join(row[:wide].replace(" ", "") for row in view.drawing()[1:1 + high])
                if high <= 29:
                    self.assertEqual(shown, text.replace(" ", ""), (text, wide))

    def test_both_fitted(self):
        for seed in range(60):
            chance = random.Random(seed)
            text = some_text(chance)
            deeds = [("text", 0, 0, text), ("look", 0, 0, *chance.choice(LOOKS)[:2], True), ("fit", "column", 0),
                     ("fit", "row", 0)]
            view = view_of(1, 1, deeds, screen=(30, 60))
            wide, high = view.sheet().columns().own(0), view.sheet().rows().own(0)
            if high <= 30:
                # No word is cut: the words of its rows are those of the text.
                rows = [row[:wide] for row in view.drawing()[:high]]
                self.assertEqual([word for row in rows for word in plain_words(row)], plain_words(text))


class OneGreatCell(unittest.TestCase):
    """A merged box is like one cell of its height and width."""

    def test_drawn_and_hit(self):
        for look in LOOKS:
            text = ("text", 0, 0, "one two three four five six")
            box = view_of(2, 3, [("merge", 0, 0, 2, 3), text, ("look", 0, 0, *look)], high=2, wide=4, screen=(5, 14))
            cell = view_of(1, 1, [text, ("look", 0, 0, *look)], high=4, wide=12, screen=(5, 14))
            self.assertEqual(box.drawing(), cell.drawing())
            self.assertEqual(box.places(1, 2), cell.places(0, 0))
            for v, u in itertools.product(range(5), range(14)):
                self.assertEqual(box.hit(v, u) is None, cell.hit(v, u) is None)

    def test_whatever_its_sizes_and_hidden_ones(self):
        for seed in range(40):
            chance = random.Random(seed)
            high, wide = chance.randint(2, 4), chance.randint(1, 4)
            text, look = some_text(chance), chance.choice(LOOKS)
            view = view_of(8, 8, [("merge", 2, 2, high, wide), ("text", 2, 2, text), ("look", 2, 2, *look)], wide=3,
                           screen=(6, 9))
            for axis, number in itertools.product(AXES, range(2, 6)):
                view.do(("size", axis, number, chance.randint(1, 5)))
                if chance.random() < 0.3:
                    view.do(("hide", axis, number, 1))
            counted_high = view.sheet().rows().ahead(2 + high) - view.sheet().rows().ahead(2)
            counted_wide = view.sheet().columns().ahead(2 + wide) - view.sheet().columns().ahead(2)
            if not counted_high or not counted_wide:
                self.assertEqual(view.places(2, 2), [])
                continue
            other = view_of(8, 8, [("text", 2, 2, text), ("look", 2, 2, *look), ("size", "row", 2, counted_high),
                                   ("size", "column", 2, counted_wide)], wide=3, screen=(6, 9))
            for each in (view, other):
                each.do(("caret", 2, 2))
            self.assertEqual(view.scroll(), other.scroll())
            self.assertEqual(view.places(2, 2), other.places(2, 2))
            for v, u, rows, columns in view.places(2, 2):
                self.assertEqual([row[u:u + columns] for row in view.drawing()[v:v + rows]],
                                 [row[u:u + columns] for row in other.drawing()[v:v + rows]])

    def test_asked_by_each_of_its_cells(self):
        view = view_of(6, 6, [("merge", 1, 1, 3, 2), ("text", 1, 1, "x")])
        for row, column in itertools.product(range(1, 4), range(1, 3)):
            self.assertEqual(view.places(row, column), [(1, 6, 3, 12)])
            self.assertEqual((view.sheet().text(row, column), view.sheet().box(row, column)), ("x", (1, 1, 3, 2)))
            other = view.twin()
            other.do(("caret", row, column))
            self.assertEqual(other.caret(), (1, 1))
            other = view.twin()
            other.do(("part", row, column))
            self.assertEqual(other.sheet().merged(), [])


class Anew(unittest.TestCase):
    def test_the_same_asked_again(self):
        for seed in range(10):
            chance = random.Random(seed)
            view, plain = view_pair(5, 5, screen=(5, 12))
            for _ in range(20):
                deed = some_deed(chance, plain)
                plain.do(deed)
                refused(view.do, deed)
            self.assertEqual(told(view), told(view))

    def test_views_of_great_sheets(self):
        sheet = Sheet(1000000, 1000, high=60, wide=60)
        for number in range(60):
            sheet.do(("text", number * 16000, number * 16, "text " + str(number)))
            sheet.do(("hide", "row", number * 15000 + 7, 1))
            sheet.do(("size", "column", number * 16 + 3, 7))
        view = View(sheet, high=30, wide=60)
        for number in range(0, 60, 7):
            view.do(("caret", number * 16000, number * 16))
            (v, u, high, wide), = view.places(number * 16000, number * 16)
            # Sixty rows are higher than the screen: it begins at the first place.
            self.assertEqual((v, u, high, wide), (0, 0, 30, 60))
            self.assertEqual(view.drawing()[0][:9].strip(), ("text " + str(number))[:9].strip())
            self.assertEqual(view.hit(29, 59), (number * 16000, number * 16, 1, 1))


if __name__ == "__main__":
    unittest.main()
