"""Boxes: points [5] and [6], and the interface under gridscope/boxes.py."""

import itertools
import unittest

from gridscope import boxes
from gridscope.boxes import cut_out, has, meet, put_in, shared
from gridscope.errors import BadAxis

WRONG_AXES = ("", "rows", "Row", "ROW", "row ", " row", "columns", "col", "Column", "down", "0", "r", "rowcolumn")


def cells(box):
    row, column, high, wide = box
    return {(row + down, column + across) for down in range(high) for across in range(wide)}


def box_of(some):
    """The box of cells that are all of a box, or None of none."""
    if not some:
        return None
    rows, columns = [row for row, _ in some], [column for _, column in some]
    return (min(rows), min(columns), max(rows) - min(rows) + 1, max(columns) - min(columns) + 1)


def small_boxes():
    return itertools.product(range(3), range(3), range(1, 4), range(1, 4))


def turned(box):
    """Rows for columns and the other way about."""
    row, column, high, wide = box
    return (column, row, wide, high)


class Common(unittest.TestCase):
    def test_has(self):
        for box in small_boxes():
            for row, column in itertools.product(range(-1, 7), repeat=2):
                self.assertIs(has(box, row, column), (row, column) in cells(box))

    def test_has_in_a_great_box(self):
        box = (0, 0, 1000000, 1000)
        self.assertIs(has(box, 999999, 999), True)
        self.assertIs(has(box, 1000000, 999), False)
        self.assertIs(has(box, 999999, 1000), False)
        self.assertIs(has(box, -1, 0), False)
        self.assertIs(has(box, 0, -1), False)
        self.assertIs(has(box, 10 ** 29, 0), False)

    def test_meet_and_shared(self):
        for one, other in itertools.product(small_boxes(), repeat=2):
            common = cells(one) & cells(other)
            self.assertIs(meet(one, other), bool(common))
            self.assertEqual(shared(one, other), box_of(common))

    def test_neighbours(self):
        box = (2, 2, 2, 2)
        for other in ((0, 2, 2, 2), (4, 2, 2, 2), (2, 0, 2, 2), (2, 4, 2, 2), (0, 0, 2, 2), (4, 4, 1, 1), (9, 2, 1, 2)):
            for one, two in ((box, other), (other, box)):
                self.assertIs(meet(one, two), False)
                self.assertIsNone(shared(one, two))

    def test_corners(self):
        box = (2, 2, 2, 2)
        for other, common in (((0, 0, 3, 3), (2, 2, 1, 1)), ((3, 3, 9, 9), (3, 3, 1, 1)), ((0, 3, 3, 1), (2, 3, 1, 1)),
                              ((0, 0, 9, 9), (2, 2, 2, 2)), ((3, 0, 1, 9), (3, 2, 1, 2)), ((2, 2, 2, 2), (2, 2, 2, 2))):
            for one, two in ((box, other), (other, box)):
                self.assertIs(meet(one, two), True)
                self.assertEqual(shared(one, two), common)
                self.assertIs(type(shared(one, two)), tuple)

    def test_names_of_the_file(self):
        for name in ("has", "meet", "shared", "put_in", "cut_out"):
            self.assertEqual(getattr(boxes, name).__module__, "gridscope.boxes")


class PutIn(unittest.TestCase):
    def expected(self, box, number, many):
        """What becomes of the rows of a box."""
        moved = {(row if row < number else row + many, column) for row, column in cells(box)}
        return box_of(moved)

    def test_everywhere(self):
        for box in small_boxes():
            for number, many in itertools.product(range(8), (1, 2, 5, 1000)):
                due = self.expected(box, number, many)
                self.assertEqual(put_in(box, "row", number, many), due)
                self.assertEqual(put_in(turned(box), "column", number, many), turned(due))

    def test_by_hand(self):
        box = (2, 5, 3, 4)
        for number, due in ((0, (4, 5, 3, 4)), (1, (4, 5, 3, 4)), (2, (4, 5, 3, 4)), (3, (2, 5, 5, 4)),
                            (4, (2, 5, 5, 4)), (5, box), (6, box), (1000000, box)):
            self.assertEqual(put_in(box, "row", number, 2), due)
        for number, due in ((0, (2, 7, 3, 4)), (5, (2, 7, 3, 4)), (6, (2, 5, 3, 6)), (8, (2, 5, 3, 6)), (9, box)):
            self.assertEqual(put_in(box, "column", number, 2), due)

    def test_one_cell(self):
        box = (3, 4, 1, 1)
        self.assertEqual(put_in(box, "row", 3, 7), (10, 4, 1, 1))
        self.assertEqual(put_in(box, "row", 4, 7), box)
        self.assertEqual(put_in(box, "column", 4, 7), (3, 11, 1, 1))
        self.assertEqual(put_in(box, "column", 5, 7), box)

    def test_kind(self):
        for number in (0, 3, 9):
            self.assertIs(type(put_in((2, 2, 3, 3), "row", number, 1)), tuple)

    def test_great(self):
        self.assertEqual(put_in((0, 0, 999000, 10), "row", 998999, 1000), (0, 0, 1000000, 10))
        self.assertEqual(put_in((998000, 0, 1000, 10), "row", 998000, 1000), (999000, 0, 1000, 10))


class CutOut(unittest.TestCase):
    def expected(self, box, number, many):
        """What becomes of the rows of a box."""
        behind = number + many
        left = {(row if row < number else row - many, column) for row, column in cells(box)
                if row < number or row >= behind}
        return box_of(left)

    def test_everywhere(self):
        for box in small_boxes():
            for number, many in itertools.product(range(8), range(1, 9)):
                due = self.expected(box, number, many)
                self.assertEqual(cut_out(box, "row", number, many), due)
                due = None if due is None else turned(due)
                self.assertEqual(cut_out(turned(box), "column", number, many), due)

    def test_by_hand(self):
        box = (4, 5, 3, 2)
        for number, many, due in (
            (0, 1, (3, 5, 3, 2)), (0, 4, (0, 5, 3, 2)), (3, 1, (3, 5, 3, 2)),
            (0, 5, (0, 5, 2, 2)), (3, 2, (3, 5, 2, 2)), (4, 1, (4, 5, 2, 2)), (4, 2, (4, 5, 1, 2)),
            (5, 1, (4, 5, 2, 2)), (5, 2, (4, 5, 1, 2)), (5, 99, (4, 5, 1, 2)), (6, 1, (4, 5, 2, 2)),
            (4, 3, None), (3, 4, None), (4, 4, None), (0, 99, None),
            (7, 1, box), (7, 99, box), (8, 1, box),
        ):
            self.assertEqual(cut_out(box, "row", number, many), due)
            due = None if due is None else turned(due)
            self.assertEqual(cut_out(turned(box), "column", number, many), due)

    def test_one_cell(self):
        box = (3, 4, 1, 1)
        self.assertEqual(cut_out(box, "row", 0, 3), (0, 4, 1, 1))
        self.assertEqual(cut_out(box, "row", 2, 1), (2, 4, 1, 1))
        self.assertIsNone(cut_out(box, "row", 3, 1))
        self.assertEqual(cut_out(box, "row", 4, 1), box)
        self.assertEqual(cut_out(box, "column", 0, 4), (3, 0, 1, 1))
        self.assertIsNone(cut_out(box, "column", 4, 1))
        self.assertIsNone(cut_out(box, "column", 1, 9))
        self.assertEqual(cut_out(box, "column", 5, 9), box)

    def test_one_cell_left(self):
        self.assertEqual(cut_out((4, 5, 3, 1), "row", 4, 2), (4, 5, 1, 1))
        self.assertEqual(cut_out((4, 5, 3, 1), "row", 5, 2), (4, 5, 1, 1))
        self.assertEqual(cut_out((4, 5, 1, 3), "column", 0, 7), (4, 0, 1, 1))

    def test_kind(self):
        for number in (0, 3, 9):
            self.assertIs(type(cut_out((2, 2, 3, 3), "row", number, 1)), tuple)

    def test_great(self):
        self.assertEqual(cut_out((500000, 3, 500000, 2), "row", 0, 999999), (0, 3, 1, 2))
        self.assertEqual(cut_out((0, 0, 1000000, 1000), "column", 1, 999), (0, 0, 1000000, 1))


class Axes(unittest.TestCase):
    def test_no_axis(self):
        for axis in WRONG_AXES:
            for turn in (put_in, cut_out):
                with self.assertRaises(BadAxis):
                    turn((2, 2, 2, 2), axis, 1, 1)

    def test_first_of_all(self):
        for axis, number, many in itertools.product(WRONG_AXES, (-1, 0, 9, 10 ** 29), (-1, 0, 1001, 10 ** 29)):
            for turn in (put_in, cut_out):
                with self.assertRaises(BadAxis):
                    turn((2, 2, 2, 2), axis, number, many)
                with self.assertRaises(BadAxis):
                    turn((0, 0, 1, 1), axis, number, many)

    def test_the_other_axis_stays(self):
        box = (1, 6, 2, 3)
        self.assertEqual(put_in(box, "row", 2, 9), (1, 6, 11, 3))
        self.assertEqual(put_in(box, "column", 2, 9), (1, 15, 2, 3))
        self.assertEqual(cut_out(box, "row", 5, 9), box)
        self.assertEqual(cut_out(box, "column", 5, 2), (1, 5, 2, 2))


if __name__ == "__main__":
    unittest.main()
