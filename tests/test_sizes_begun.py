"""Rows of sizes begun, what is equal, and twins: points [1], [2] and [18]."""

import unittest

from gridscope.errors import BadMany, BadSize, Full, NoIndex
from gridscope.sizes import COMMON, Sizes
from plain_row import PlainRow, told

FAR = 10 ** 29


class Begun(unittest.TestCase):
    def test_common(self):
        self.assertEqual(COMMON, 1)
        self.assertEqual(Sizes(4).common, 1)
        self.assertEqual(Sizes.__module__, "gridscope.sizes")

    def test_counts_within(self):
        for many in (1, 2, 59, 60, 61, 1000, 1001, 999999, 1000000):
            row = Sizes(many)
            self.assertEqual((row.many, row.common, row.total()), (many, 1, many))
            self.assertEqual(row.exceptions(), [])

    def test_counts_beyond(self):
        for many in (0, -1, -1000000, 1000001, 2000000, FAR, -FAR):
            with self.assertRaises(BadMany):
                Sizes(many)
            with self.assertRaises(BadMany):
                Sizes(many, common=7)

    def test_common_sizes_within(self):
        for common in range(1, 61):
            row = Sizes(3, common=common)
            self.assertEqual((row.many, row.common), (3, common))
            self.assertEqual(told(row), PlainRow(3, common).told())

    def test_common_sizes_beyond(self):
        for common in (0, -1, -60, 61, 62, 1000, FAR, -FAR):
            with self.assertRaises(BadSize):
                Sizes(3, common=common)

    def test_both_wrong(self):
        for many in (0, -1, 1000001):
            for common in (0, -1, 61):
                with self.assertRaises(BadMany):
                    Sizes(many, common=common)

    def test_repr(self):
        self.assertEqual(repr(Sizes(1)), "Sizes 1 1")
        self.assertEqual(repr(Sizes(1000000, common=60)), "Sizes 1000000 60")
        row = Sizes(12, common=7)
        row.give(3, 9)
        row.hide(4)
        self.assertEqual(repr(row), "Sizes 12 7")
        row.put(0, 5)
        self.assertEqual(repr(row), "Sizes 17 7")
        row.cut(1, 10)
        self.assertEqual(repr(row), "Sizes 7 7")

    def test_one_thing(self):
        row = Sizes(1, common=60)
        self.assertEqual(told(row), PlainRow(1, 60).told())
        self.assertEqual(row.at(59), (0, 59))


class Equal(unittest.TestCase):
    def same(self, one, other):
        self.assertIs(one == other, True)
        self.assertIs(other == one, True)
        self.assertIs(one != other, False)
        self.assertIs(other != one, False)

    def other(self, one, other):
        self.assertIs(one == other, False)
        self.assertIs(other == one, False)
        self.assertIs(one != other, True)
        self.assertIs(other != one, True)

    def test_plain_rows(self):
        self.same(Sizes(5), Sizes(5, common=1))
        self.other(Sizes(5), Sizes(6))
        self.other(Sizes(5), Sizes(5, common=2))
        row = Sizes(5)
        self.same(row, row)

    def test_set_sizes(self):
        one, other = Sizes(5, common=3), Sizes(5, common=3)
        one.give(2, 4)
        self.other(one, other)
        other.give(2, 5)
        self.other(one, other)
        other.give(2, 4)
        self.same(one, other)
        other.plain(2)
        other.give(3, 4)
        self.other(one, other)

    def test_common_size_is_as_not_set(self):
        one, other = Sizes(5, common=3), Sizes(5, common=3)
        one.give(2, 3)
        self.same(one, other)
        one.give(2, 4)
        one.give(2, 3)
        self.same(one, other)
        one.hide(1)
        one.give(1, 3)
        other.hide(1)
        self.same(one, other)

    def test_hidden_ones(self):
        one, other = Sizes(5), Sizes(5)
        one.hide(2)
        self.other(one, other)
        other.hide(3)
        self.other(one, other)
        other.show(3)
        other.hide(2)
        self.same(one, other)
        one.give(2, 9)
        self.other(one, other)
        other.give(2, 9)
        self.same(one, other)
        other.show(2)
        self.other(one, other)

    def test_order_of_deeds_does_not_count(self):
        one, other = Sizes(9), Sizes(9)
        for number in (1, 4, 7):
            one.give(number, number + 1)
        for number in (7, 1, 4):
            other.give(number, number + 1)
        self.same(one, other)

    def test_same_sums_are_not_the_same_row(self):
        one, other = Sizes(4, common=2), Sizes(2, common=4)
        self.assertEqual(one.total(), other.total())
        self.other(one, other)
        one, other = Sizes(2, common=2), Sizes(2, common=3)
        for number in (0, 1):
            one.give(number, 5)
            other.give(number, 5)
        self.other(one, other)

    def test_behind_putting_in_and_cutting_out(self):
        one, other = Sizes(5), Sizes(5)
        one.give(4, 2)
        one.put(0, 3)
        self.other(one, other)
        one.cut(7, 1)
        one.cut(0, 2)
        self.same(one, other)

    def test_something_with_the_same_fields(self):
        class Like:
            def __init__(self, row):
                vars(self).update(vars(row))

        self.other(Sizes(5), Like(Sizes(5)))

    def test_things_of_another_kind(self):
        row = Sizes(5)
        for thing in (5, 0, "Sizes 5 1", "", None, True, False, [], [1] * 5, (5, 1), {}, {"many": 5}, object(), Sizes):
            self.other(row, thing)


class Twins(unittest.TestCase):
    def begun(self):
        row = Sizes(8, common=2)
        row.give(1, 5)
        row.hide(1)
        row.hide(3)
        row.give(6, 9)
        return row

    def test_same_as_the_row(self):
        row = self.begun()
        twin = row.twin()
        self.assertIsInstance(twin, Sizes)
        self.assertIsNot(twin, row)
        self.assertEqual(twin, row)
        self.assertEqual(told(twin), told(row))
        self.assertEqual(repr(twin), repr(row))

    def check_on_its_own(self, change):
        row = self.begun()
        twin = row.twin()
        ahead = told(row)
        change(twin)
        self.assertEqual(told(row), ahead)
        self.assertNotEqual(twin, row)
        row = self.begun()
        twin = row.twin()
        change(row)
        self.assertEqual(told(twin), ahead)
        self.assertNotEqual(twin, row)

    def test_on_its_own(self):
        for change in (
            lambda row: row.give(0, 7), lambda row: row.give(6, 7), lambda row: row.plain(6),
            lambda row: row.plain(1), lambda row: row.hide(0), lambda row: row.hide(6),
            lambda row: row.show(3), lambda row: row.show(1), lambda row: row.put(2, 4), lambda row: row.put(8, 1),
            lambda row: row.cut(0, 1), lambda row: row.cut(3, 1), lambda row: row.cut(7, 1),
        ):
            self.check_on_its_own(change)

    def test_twin_of_more_than_a_million(self):
        row = Sizes(1000000, common=3)
        row.hide(999999)
        row.put(5, 1000)
        twin = row.twin()
        self.assertEqual(twin, row)
        self.assertEqual((twin.many, twin.total()), (1001000, 3003000 - 3))

    def test_twin_of_a_full_row(self):
        row = Sizes(70)
        for number in range(60):
            row.hide(number)
        twin = row.twin()
        with self.assertRaises(Full):
            twin.hide(60)
        twin.show(0)
        twin.hide(60)
        with self.assertRaises(Full):
            row.hide(60)
        with self.assertRaises(NoIndex):
            twin.hide(70)


if __name__ == "__main__":
    unittest.main()
