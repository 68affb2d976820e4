"""The caret: it goes, is shown by the least scroll, goes along with rows and columns: points [13], [14], [16]."""

import itertools
import random
import unittest

from compared_views import ComparedViews, view_of, view_pair
from plain_view import refused

FAR = 10 ** 29
AXES = ("row", "column")


def exchanged(deed):
    """The deed with rows and columns exchanged."""
    word, *rest = deed
    if word == "go":
        ways = {"down": "right", "right": "down", "up": "left", "left": "up"}
        return (word, ways.get(rest[0], rest[0]), rest[1])
    if rest[0] in AXES:
        return (word, AXES[1 - AXES.index(rest[0])], *rest[1:])
    swapped = [rest[1], rest[0], *rest[2:]]
    if word == "merge":
        swapped[2:] = [rest[3], rest[2]]
    return (word, *swapped)


class Goes(ComparedViews):
    def carets(self, deeds, last, **given):
        view = view_of(6, 6, deeds, **given)
        view.do(last)
        return view.caret()

    def test_by_hand(self):
        for start, way, many, due in (
            ((2, 2), "down", 1, (3, 2)), ((2, 2), "up", 1, (1, 2)), ((2, 2), "right", 1, (2, 3)),
            ((2, 2), "left", 1, (2, 1)),
            ((2, 2), "down", 3, (5, 2)), ((2, 2), "down", 4, (5, 2)), ((2, 2), "down", 99, (5, 2)),
            ((2, 2), "up", 99, (0, 2)),
            ((2, 2), "right", 99, (2, 5)), ((2, 2), "left", 99, (2, 0)), ((0, 0), "up", 1, (0, 0)),
            ((0, 0), "left", 1, (0, 0)),
            ((5, 5), "down", 1, (5, 5)), ((5, 5), "right", 1, (5, 5)),
        ):
            self.assertEqual(self.carets([("caret", *start)], ("go", way, many)), due)

    def test_through_merged_boxes(self):
        boxes = [("merge", 1, 1, 2, 3), ("merge", 3, 0, 1, 2), ("merge", 4, 1, 2, 2)]
        for start, way, many, due in (
            ((0, 2), "down", 1, (1, 1)), ((0, 2), "down", 2, (3, 0)), ((0, 2), "down", 3, (4, 0)),
            ((2, 3), "down", 1, (3, 0)),
            ((3, 2), "down", 1, (4, 1)), ((3, 2), "down", 2, (4, 1)), ((2, 0), "right", 1, (1, 1)),
            ((2, 0), "right", 2, (1, 4)),
            ((1, 5), "left", 2, (1, 1)), ((2, 5), "left", 2, (1, 1)), ((2, 5), "left", 3, (1, 0)),
            ((5, 3), "left", 1, (4, 1)),
            ((5, 3), "left", 2, (4, 0)), ((5, 2), "up", 1, (3, 0)), ((5, 2), "up", 2, (2, 0)),
            ((3, 3), "up", 1, (1, 1)),
            ((3, 3), "up", 2, (0, 1)),
        ):
            self.assertEqual(self.carets(boxes + [("caret", *start)], ("go", way, many)), due, (start, way, many))

    def test_over_hidden_ones(self):
        for side, (axis, up, down) in enumerate((("row", "up", "down"), ("column", "left", "right"))):
            deeds = [("caret", 2, 2), ("hide", axis, 3, 2), ("hide", axis, 0, 1)]
            for way, many, due in ((down, 1, 5), (down, 2, 5), (up, 1, 1), (up, 2, 1)):
                self.assertEqual(self.carets(deeds, ("go", way, many))[side], due)

    def test_nothing_that_counts(self):
        for axis, stays, goes in (("row", ("up", "down"), ("left", "right")),
                                  ("column", ("left", "right"), ("up", "down"))):
            deeds = [("caret", 2, 2), ("hide", axis, 0, 6)]
            for way in stays:
                self.assertEqual(self.carets(deeds, ("go", way, 1)), (2, 2))
            for way in goes:
                self.assertNotEqual(self.carets(deeds, ("go", way, 1)), (2, 2))

    def test_to_a_box_whose_first_cell_is_hidden(self):
        deeds = [("merge", 2, 1, 3, 2), ("hide", "row", 2, 1), ("caret", 1, 1)]
        self.assertEqual(self.carets(deeds, ("go", "down", 1)), (2, 1))
        self.assertEqual(self.carets(deeds, ("go", "down", 2)), (5, 1))

    def test_from_a_hidden_row(self):
        deeds = [("caret", 2, 2), ("hide", "row", 2, 1)]
        self.assertEqual(self.carets(deeds, ("go", "down", 1)), (3, 2))
        self.assertEqual(self.carets(deeds, ("go", "up", 1)), (1, 2))
        self.assertEqual(self.carets(deeds, ("go", "right", 1)), (2, 3))

    def test_so_many_times_is_one_behind_the_other(self):
        for seed in range(40):
            chance = random.Random(seed)
            deeds = [("merge", 1, 1, 2, 2), ("merge", 0, 4, 3, 1), ("hide", "row", 3, 1), ("hide", "column", 5, 1),
                     ("caret", chance.randrange(7), chance.randrange(7))]
            way, many = chance.choice(("down", "up", "left", "right")), chance.randint(1, 9)
            once, often = view_of(7, 7, deeds), view_of(7, 7, deeds)
            once.do(("go", way, many))
            for _ in range(many):
                often.do(("go", way, 1))
            self.assertEqual(once.caret(), often.caret())

    def test_refused(self):
        view, plain = view_pair(6, 6, [("caret", 2, 2)])
        for way in ("", "Down", "DOWN", " down", "row", "column", "no", "0"):
            for many in (0, 1, 99, 100, -1, FAR):
                self.assertEqual(self.check(view, plain, ("go", way, many)), "BadWay")
        for way, many in itertools.product(("down", "up", "left", "right"), (0, -1, 100, 101, FAR, -FAR)):
            self.assertEqual(self.check(view, plain, ("go", way, many)), "BadMany")

    def test_every_cell_and_way(self):
        deeds = [("merge", 1, 1, 2, 3), ("merge", 3, 0, 1, 2), ("hide", "row", 4, 1), ("hide", "column", 2, 1),
                 ("hold", 1, 1)]
        view, plain = view_pair(6, 6, deeds, wide=3, screen=(3, 8))
        for row, column, way, many in itertools.product(range(6), range(6), ("down", "up", "left", "right"), (1, 2)):
            for deed in (("caret", row, column), ("go", way, many)):
                view.do(deed)
                plain.do(deed)
                self.assertEqual((view.caret(), view.scroll()), (tuple(plain.stand.caret), tuple(plain.stand.scroll)))


class Put(ComparedViews):
    def test_to_the_first_cell_of_a_box(self):
        view = view_of(6, 6, [("merge", 1, 1, 2, 3)])
        for cell in itertools.product((1, 2), (1, 2, 3)):
            view.do(("caret", *cell))
            self.assertEqual(view.caret(), (1, 1))
        view.do(("caret", 5, 5))
        self.assertEqual(view.caret(), (5, 5))

    def test_no_cells(self):
        view, plain = view_pair(6, 6, [("caret", 2, 2)])
        for cell in ((-1, 0), (0, -1), (6, 0), (0, 6), (FAR, 0), (0, -FAR), (-1, 6)):
            self.assertEqual(self.check(view, plain, ("caret", *cell)), "NoCell")

    def test_merged_and_parted(self):
        view = view_of(6, 6, [("caret", 2, 2)])
        for deed, due in ((("merge", 1, 1, 2, 3), (1, 1)), (("part", 2, 3), (1, 1)), (("merge", 1, 1, 1, 2), (1, 1)),
                          (("part", 1, 1), (1, 1)), (("merge", 2, 2, 2, 2), (1, 1)), (("caret", 3, 3), (2, 2))):
            view.do(deed)
            self.assertEqual(view.caret(), due)


class Shown(ComparedViews):
    def check_shown(self, deeds, last, due, screen=(5, 12), wide=3):
        view, plain = view_pair(20, 20, deeds, wide=wide, screen=screen)
        view.do(last)
        plain.do(last)
        self.assertEqual(view.scroll(), due)
        self.assertEqual(plain.stand.scroll, list(due))

    def test_below(self):
        self.check_shown([], ("caret", 4, 0), (0, 0))
        self.check_shown([], ("caret", 5, 0), (1, 0))
        self.check_shown([], ("caret", 19, 0), (15, 0))
        self.check_shown([("scroll", 3, 0)], ("caret", 8, 0), (4, 0))
        self.check_shown([("size", "row", 6, 3)], ("caret", 6, 0), (4, 0))

    def test_above(self):
        self.check_shown([("scroll", 8, 0)], ("caret", 8, 0), (8, 0))
        self.check_shown([("scroll", 8, 0)], ("caret", 7, 0), (7, 0))
        self.check_shown([("scroll", 8, 0)], ("caret", 0, 0), (0, 0))
        # Of a box that begins above and has room as much as is missing.
        self.check_shown([("merge", 5, 0, 4, 1), ("scroll", 7, 0)], ("caret", 5, 0), (5, 0))

    def test_seen_already(self):
        for row in range(8, 13):
            self.check_shown([("scroll", 8, 6)], ("caret", row, 2), (8, 6))

    def test_across(self):
        self.check_shown([], ("caret", 0, 3), (0, 0))
        self.check_shown([], ("caret", 0, 4), (0, 3))
        self.check_shown([("scroll", 0, 4)], ("caret", 0, 1), (0, 3))
        self.check_shown([("scroll", 0, 4)], ("caret", 0, 5), (0, 6))
        self.check_shown([("scroll", 2, 4)], ("caret", 9, 9), (5, 18))

    def test_held(self):
        self.check_shown([("hold", 2, 1)], ("caret", 4, 0), (0, 0))
        self.check_shown([("hold", 2, 1)], ("caret", 5, 0), (1, 0))
        self.check_shown([("hold", 2, 1), ("scroll", 5, 7)], ("caret", 6, 4), (4, 7))
        self.check_shown([("hold", 2, 1), ("scroll", 5, 7)], ("caret", 7, 3), (5, 6))
        # A box that begins in what is held needs no scroll.
        self.check_shown([("hold", 2, 1), ("scroll", 5, 7)], ("caret", 1, 9), (5, 18))
        self.check_shown([("hold", 2, 1), ("scroll", 5, 7)], ("caret", 9, 0), (7 - 2, 7))
        self.check_shown([("hold", 2, 1), ("scroll", 5, 7)], ("caret", 0, 0), (5, 7))
        self.check_shown([("merge", 1, 0, 3, 1), ("hold", 2, 1), ("scroll", 5, 7)], ("caret", 3, 0), (5, 7))

    def test_the_held_rows_take_all(self):
        self.check_shown([("size", "row", 0, 5), ("hold", 1, 0)], ("caret", 19, 4), (0, 3))
        self.check_shown([("size", "row", 0, 9), ("hold", 1, 0)], ("caret", 19, 0), (0, 0))
        self.check_shown([("size", "column", 0, 12), ("hold", 0, 1)], ("caret", 7, 19), (3, 0))
        self.check_shown([("size", "row", 0, 4), ("hold", 1, 0)], ("caret", 19, 0), (18, 0))

    def test_higher_than_the_part(self):
        tall = [("merge", 4, 0, 7, 1)]
        self.check_shown(tall, ("caret", 4, 0), (4, 0))
        self.check_shown(tall + [("scroll", 4, 0)], ("caret", 4, 0), (4, 0))
        self.check_shown(tall + [("scroll", 6, 0)], ("caret", 4, 0), (4, 0))
        self.check_shown(tall + [("scroll", 15, 0)], ("caret", 4, 0), (4, 0))
        self.check_shown(tall + [("hold", 2, 0)], ("caret", 4, 0), (2, 0))
        # As high as the part: it has room.
        self.check_shown([("merge", 4, 0, 5, 1)], ("caret", 4, 0), (4, 0))
        self.check_shown([("merge", 4, 0, 5, 1), ("scroll", 9, 0)], ("caret", 4, 0), (4, 0))

    def test_counts_nothing(self):
        self.check_shown([("hide", "row", 9, 1), ("scroll", 2, 2)], ("caret", 9, 0), (2, 0))
        self.check_shown([("hide", "column", 9, 1), ("scroll", 2, 2)], ("caret", 0, 9), (0, 2))
        self.check_shown([("hide", "row", 9, 1), ("hide", "column", 9, 1), ("scroll", 2, 2)], ("caret", 9, 9), (2, 2))

    def test_a_box_with_hidden_rows(self):
        self.check_shown([("merge", 4, 0, 7, 1), ("hide", "row", 5, 5)], ("caret", 4, 0), (1, 0))

    def test_gone_is_shown_too(self):
        self.check_shown([("caret", 4, 0)], ("go", "down", 1), (1, 0))
        self.check_shown([("caret", 4, 3)], ("go", "right", 1), (0, 3))
        # Shown also where it stays.
        self.check_shown([("scroll", 3, 0)], ("go", "up", 1), (0, 0))
        self.check_shown([("scroll", 3, 4)], ("go", "left", 9), (0, 0))

    def test_other_deeds_do_not_show_it(self):
        for deed in (("scroll", 9, 9), ("text", 0, 0, "x"), ("put", "row", 0, 9), ("hold", 1, 1),
                     ("size", "row", 0, 9)):
            view = view_of(20, 20, [("caret", 2, 2), ("scroll", 9, 9), deed], wide=3, screen=(5, 12))
            self.assertEqual(view.scroll(), (9, 9))

    def test_every_box_scroll_and_hold(self):
        deeds = [("merge", 1, 1, 2, 2), ("merge", 4, 4, 3, 3), ("size", "row", 3, 4), ("hide", "column", 5, 1)]
        for rows, columns in ((0, 0), (1, 0), (0, 2), (2, 2), (4, 4)):
            view, plain = view_pair(8, 8, deeds + [("hold", rows, columns)], wide=3, screen=(5, 11))
            stands = itertools.product(range(plain.stand.greatest(0) + 1), range(0, plain.stand.greatest(1) + 1, 3),
                                       range(8), range(8))
            for number, (down, across, row, column) in enumerate(stands):
                if number % 3:
                    continue
                for deed in (("scroll", down, across), ("caret", row, column)):
                    view.do(deed)
                    plain.do(deed)
                self.assertEqual(view.scroll(), tuple(plain.stand.scroll), (down, across, row, column))

    def test_what_has_room_is_whole(self):
        view = view_of(20, 20, [("merge", 4, 4, 3, 3), ("hold", 1, 1)], wide=3, screen=(5, 15))
        for down, across in itertools.product(range(0, 16, 3), range(0, 46, 7)):
            view.do(("scroll", down, across))
            view.do(("caret", 5, 5))
            self.assertEqual([stretch[2:] for stretch in view.places(4, 4)], [(3, 9)])

    def test_far(self):
        view = view_of(1000000, 1000, [("hold", 1, 1)])
        for row, column in ((999999, 999), (0, 0), (500000, 500), (1, 1)):
            view.do(("caret", row, column))
            self.assertEqual(len(view.places(row, column)), 1)
        self.assertEqual(view.scroll(), (0, 0))


class GoesAlong(ComparedViews):
    def check_moved(self, begun, deed, due):
        for deeds, last, cell in ((begun, deed, due), ([exchanged(each) for each in begun], exchanged(deed),
                                                       due[::-1])):
            view = view_of(8, 8, deeds)
            view.do(last)
            self.assertEqual(view.caret(), cell, (deeds, last))

    def test_put_in(self):
        for number in range(9):
            self.check_moved([("caret", 3, 2)], ("put", "row", number, 2), (5 if number <= 3 else 3, 2))

    def test_put_in_through_a_box(self):
        for number in range(9):
            self.check_moved([("merge", 3, 2, 3, 2), ("caret", 4, 3)], ("put", "row", number, 2),
                             (5 if number <= 3 else 3, 2))

    def test_cut_out(self):
        for number, many in itertools.product(range(8), range(1, 8)):
            if number + many <= 8:
                row = 3 - many if number + many <= 3 else 3 if number > 3 else min(number, 7 - many)
                self.check_moved([("caret", 3, 2)], ("cut", "row", number, many), (row, 2))

    def test_cut_at_the_end(self):
        self.check_moved([("caret", 7, 2)], ("cut", "row", 7, 1), (6, 2))
        self.check_moved([("caret", 7, 2)], ("cut", "row", 5, 3), (4, 2))
        self.check_moved([("caret", 7, 2)], ("cut", "row", 1, 7), (0, 2))

    def test_cut_through_its_box(self):
        box = [("merge", 3, 2, 3, 2), ("caret", 4, 3)]
        for number, many, due in ((3, 1, 3), (3, 2, 3), (2, 2, 2), (1, 4, 1), (4, 1, 3), (5, 3, 3), (4, 4, 3),
                                  (3, 3, 3),
                                  (2, 5, 2), (0, 1, 2), (0, 3, 0), (6, 2, 3)):
            self.check_moved(box, ("cut", "row", number, many), (due, 2))

    def test_to_the_first_cell_of_what_stands_there_then(self):
        # Its row is cut; the next cell is one of a box that begins farther left.
        self.check_moved([("merge", 4, 1, 2, 3), ("caret", 3, 3)], ("cut", "row", 3, 1), (3, 1))
        # The last row's cell is one of a box that begins higher.
        self.check_moved([("merge", 4, 1, 3, 3), ("caret", 7, 3)], ("cut", "row", 7, 1), (4, 1))

    def test_taken_back(self):
        view = view_of(8, 8, [("caret", 3, 2), ("cut", "row", 2, 3)])
        self.assertEqual(view.caret(), (2, 2))
        view.undo()
        self.assertEqual(view.caret(), (3, 2))

    def test_everywhere(self):
        begun = [("merge", 1, 1, 2, 3), ("merge", 4, 0, 2, 2), ("merge", 3, 3, 3, 1)]
        for axis, number, many in itertools.product(AXES, range(6), range(1, 4)):
            for word in ("put", "cut"):
                view, plain = view_pair(6, 6, begun)
                for cell in ((0, 0), (1, 1), (2, 4), (3, 3), (4, 0), (5, 5)):
                    for deed in (("caret", *cell), (word, axis, number, many)):
                        due = plain.do(deed)
                        self.assertEqual(refused(view.do, deed), due)
                    self.assertEqual(view.caret(), tuple(plain.stand.caret))
                    if due is None:
                        view.undo()
                        plain.undo()


if __name__ == "__main__":
    unittest.main()
