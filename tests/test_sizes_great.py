"""Great rows of sizes, up to a million things and more: points [2] and [3]."""

import unittest

from gridscope.sizes import Sizes
from plain_row import do

MILLION = 1000000


class Great(unittest.TestCase):
    def check_thing(self, row, number, ahead):
        """The sums ahead and behind, and the points at the edges of the thing."""
        counted = row.size(number)
        self.assertEqual(row.ahead(number), ahead)
        self.assertEqual(row.ahead(number + 1), ahead + counted)
        for within in {0, counted // 2, counted - 1} if counted else ():
            self.assertEqual(row.at(ahead + within), (number, within))

    def check_ends(self, row, total):
        self.assertEqual(row.total(), total)
        self.assertEqual(row.ahead(row.many), total)
        for point in (-1, total, total + 1, 10 ** 29):
            self.assertEqual(do(row, ("at", point)), "NoPoint")

    def test_plain(self):
        for common in (1, 2, 7, 60):
            row = Sizes(MILLION, common=common)
            for number in (0, 1, 59, 60, 61, 499999, 500000, 999998, 999999):
                self.check_thing(row, number, number * common)
            self.check_ends(row, MILLION * common)

    def test_set_and_hidden(self):
        row = Sizes(MILLION, common=3)
        row.give(0, 10)
        row.hide(1)
        row.give(500000, 60)
        row.hide(500001)
        row.give(999998, 1)
        row.hide(999999)
        self.check_thing(row, 0, 0)
        self.check_thing(row, 1, 10)
        self.check_thing(row, 2, 10)
        self.check_thing(row, 3, 13)
        self.check_thing(row, 499999, 10 + 3 * 499997)
        self.check_thing(row, 500000, 10 + 3 * 499998)
        self.check_thing(row, 500001, 10 + 3 * 499998 + 60)
        self.check_thing(row, 500002, 10 + 3 * 499998 + 60)
        self.check_thing(row, 999998, 10 + 3 * 499998 + 60 + 3 * 499996)
        self.check_thing(row, 999999, 10 + 3 * 499998 + 60 + 3 * 499996 + 1)
        self.check_ends(row, 10 + 3 * 499998 + 60 + 3 * 499996 + 1)

    def test_sixty_spread(self):
        row = Sizes(MILLION, common=2)
        chosen = [k * 16000 + k for k in range(60)]
        for k, number in enumerate(chosen):
            row.give(number, k % 50 + 3)
            if k % 3 == 0:
                row.hide(number)
        more = 0
        for k, number in enumerate(chosen):
            if number:
                self.check_thing(row, number - 1, (number - 1) * 2 + more)
            self.check_thing(row, number, number * 2 + more)
            more += (0 if k % 3 == 0 else k % 50 + 3) - 2
            self.check_thing(row, number + 1, (number + 1) * 2 + more)
        self.check_ends(row, MILLION * 2 + more)
        self.assertEqual(do(row, ("hide", 999999)), "Full")

    def test_put_in(self):
        row = Sizes(MILLION - 1000, common=2)
        row.give(10, 7)
        row.hide(11)
        row.give(998999, 5)
        row.put(11, 1000)
        self.assertEqual(row.many, MILLION)
        self.assertEqual(row.exceptions(), [(10, 7, False), (1011, 2, True), (999999, 5, False)])
        self.check_thing(row, 10, 20)
        self.check_thing(row, 11, 27)
        self.check_thing(row, 1010, 27 + 2 * 999)
        self.check_thing(row, 1011, 27 + 2 * 1000)
        self.check_thing(row, 1012, 27 + 2 * 1000)
        self.check_thing(row, 999999, 27 + 2 * 1000 + 2 * (999999 - 1012))
        self.check_ends(row, 27 + 2 * 1000 + 2 * (999999 - 1012) + 5)

    def test_cut_out(self):
        row = Sizes(MILLION, common=4)
        row.give(5, 9)
        row.give(6, 10)
        row.hide(700000)
        row.give(999999, 1)
        row.cut(6, 699994)
        self.assertEqual(row.many, 300006)
        self.assertEqual(row.exceptions(), [(5, 9, False), (6, 4, True), (300005, 1, False)])
        self.check_thing(row, 5, 20)
        self.check_thing(row, 6, 29)
        self.check_thing(row, 7, 29)
        self.check_thing(row, 300005, 29 + 4 * 299998)
        self.check_ends(row, 29 + 4 * 299998 + 1)

    def test_cut_to_one(self):
        row = Sizes(MILLION)
        row.give(999999, 6)
        self.assertIsNone(row.cut(0, 999999))
        self.assertEqual((row.many, row.total(), row.at(5)), (1, 6, (0, 5)))
        row = Sizes(MILLION)
        self.assertEqual(do(row, ("cut", 0, MILLION)), "BadMany")
        self.assertEqual(do(row, ("cut", 1, MILLION)), "BadMany")
        self.assertEqual(do(row, ("cut", MILLION, 1)), "NoIndex")
        self.assertEqual(row.many, MILLION)

    def test_more_than_a_million_by_putting_in(self):
        row = Sizes(MILLION, common=2)
        row.hide(999999)
        self.assertIsNone(row.put(MILLION, 1))
        self.assertIsNone(row.put(0, 1000))
        self.assertEqual(row.many, 1001001)
        self.assertEqual(row.exceptions(), [(1000999, 2, True)])
        self.check_thing(row, 1000998, 2001996)
        self.check_thing(row, 1000999, 2001998)
        self.check_thing(row, 1001000, 2001998)
        self.check_ends(row, 2002000)
        self.assertEqual(repr(row), "Sizes 1001001 2")
        self.assertIsNone(row.give(1001000, 9))
        self.assertEqual(row.at(2001998 + 8), (1001000, 8))
        self.assertEqual(do(row, ("size", 1001001)), "NoIndex")


if __name__ == "__main__":
    unittest.main()
