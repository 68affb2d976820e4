"""Holds, screens and scrolls, and what they are brought to behind each deed: points [8] and [15]."""

import itertools
import unittest

from compared_views import ComparedViews, view_of, view_pair

FAR = 10 ** 29


class Holds(ComparedViews):
    def test_all(self):
        view, plain = view_pair(8, 8)
        for rows, columns in itertools.product((-FAR, -1, 0, 1, 4, 5, 6, 8, 9, FAR), repeat=2):
            due = None if rows in range(6) and columns in range(6) else "BadHold"
            self.assertEqual(self.check(view, plain, ("hold", rows, columns)), due)
            if due is None:
                self.assertEqual(view.hold(), (rows, columns))

    def test_no_more_than_there_are(self):
        view, plain = view_pair(3, 2)
        for rows, columns in itertools.product(range(7), repeat=2):
            due = None if rows <= 3 and columns <= 2 else "BadHold"
            self.assertEqual(self.check(view, plain, ("hold", rows, columns)), due)

    def test_brought_to_the_count(self):
        view = view_of(7, 7, [("hold", 5, 4)])
        for deed, due in ((("cut", "row", 0, 2), (5, 4)), (("cut", "row", 0, 1), (4, 4)),
                          (("cut", "column", 1, 5), (4, 2)),
                          (("cut", "row", 1, 3), (1, 2)), (("put", "row", 0, 9), (1, 2))):
            view.do(deed)
            self.assertEqual(view.hold(), due)
        for _ in range(5):
            view.undo()
        self.assertEqual(view.hold(), (5, 4))

    def test_goes_not_along_with_rows(self):
        view = view_of(7, 7, [("hold", 2, 2), ("put", "row", 0, 3), ("cut", "column", 0, 1), ("hide", "row", 0, 1)])
        self.assertEqual(view.hold(), (2, 2))


class Screens(ComparedViews):
    def test_all(self):
        view = view_of(8, 8)
        for high, wide in itertools.product((-FAR, -1, 0, 1, 2, 29, 30, 31, FAR), (-FAR, -1, 0, 1, 2, 59, 60, 61, FAR)):
            kept = view.size()
            if 1 <= high <= 30 and 1 <= wide <= 60:
                self.assertIsNone(view.do(("screen", high, wide)))
                self.assertEqual(view.size(), (high, wide))
                self.assertEqual([len(row) for row in view.drawing()], [wide] * high)
            else:
                with self.assertRaises(ValueError) as caught:
                    view.do(("screen", high, wide))
                self.assertEqual(type(caught.exception).__name__, "BadScreen")
                self.assertEqual(view.size(), kept)

    def test_compared(self):
        view, plain = view_pair(5, 5, [("text", 2, 2, "x"), ("hold", 1, 1)])
        for high, wide in itertools.product((0, 1, 3, 12, 31), (0, 1, 8, 40, 61)):
            self.check(view, plain, ("screen", high, wide))


class Scrolls(ComparedViews):
    def greatest(self, view):
        """The greatest scroll that there is, found by asking."""
        told = []
        for side in (0, 1):
            most = 0
            for scroll in range(200):
                try:
                    view.twin().do(("scroll", scroll, 0) if side == 0 else ("scroll", 0, scroll))
                    most = scroll
                except ValueError:
                    break
            told.append(most)
        return tuple(told)

    def test_greatest(self):
        for deeds, due in (
            ([], (10, 18)), ([("screen", 20, 48)], (0, 0)), ([("screen", 30, 60)], (0, 0)),
            ([("screen", 19, 47)], (1, 1)),
            ([("screen", 1, 1)], (19, 47)), ([("hold", 5, 4)], (10, 18)),
            ([("hold", 1, 1), ("size", "row", 0, 9)], (18, 18)),
            ([("hold", 1, 1), ("size", "row", 0, 10)], (0, 18)), ([("hold", 1, 1), ("size", "row", 0, 11)], (0, 18)),
            ([("hold", 0, 5)], (10, 0)), ([("size", "column", 3, 29), ("hold", 0, 4)], (10, 0)),
            ([("hide", "row", 0, 5)], (5, 18)), ([("hide", "row", 0, 20)], (0, 18)),
            ([("hide", "column", 1, 4)], (10, 0)),
            ([("put", "row", 3, 7)], (17, 18)), ([("cut", "column", 3, 2)], (10, 6)),
        ):
            self.assertEqual(self.greatest(view_of(20, 8, deeds)), due, deeds)

    def test_refused(self):
        view, plain = view_pair(6, 4, [("hold", 1, 1)], wide=3, screen=(4, 8))
        for down, across in itertools.product((-FAR, -1, 0, 1, 2, 3, FAR), (-FAR, -1, 0, 3, 4, 5, FAR)):
            due = None if down in range(3) and across in range(5) else "BadScroll"
            self.assertEqual(self.check(view, plain, ("scroll", down, across)), due)

    def test_none_where_held_ones_take_all(self):
        view, plain = view_pair(6, 4, [("hold", 4, 1)], wide=3, screen=(4, 8))
        self.assertEqual(self.check(view, plain, ("scroll", 1, 0)), "BadScroll")
        self.assertIsNone(self.check(view, plain, ("scroll", 0, 4)))

    def test_brought_to_the_greatest(self):
        begun = [("scroll", 10, 18)]
        for deed, due in (
            (("cut", "row", 0, 1), (9, 18)), (("cut", "row", 0, 12), (0, 18)), (("hide", "row", 3, 4), (6, 18)),
            (("hide", "column", 3, 1), (10, 12)), (("size", "column", 0, 1), (10, 13)), (("screen", 12, 30), (8, 18)),
            (("screen", 30, 60), (0, 0)), (("screen", 9, 29), (10, 18)), (("put", "row", 0, 5), (10, 18)),
            (("hold", 5, 5), (10, 0)),
            (("hold", 5, 4), (10, 18)), (("fit", "column", 0), (10, 18)), (("text", 0, 0, "x"), (10, 18)),
        ):
            view = view_of(20, 8, begun + [deed])
            self.assertEqual(view.scroll(), due, deed)
            view.undo()
            self.assertEqual(view.scroll(), (10, 18))

    def test_by_a_held_row_that_grows(self):
        view = view_of(20, 8, [("hold", 1, 0), ("scroll", 10, 18), ("size", "row", 0, 10)])
        self.assertEqual(view.scroll(), (0, 18))
        view.do(("common", "row", 0))
        self.assertEqual(view.scroll(), (0, 18))

    def test_by_a_hold_that_is_brought_to_the_count(self):
        view = view_of(20, 3, [("size", "column", 2, 50), ("hold", 0, 3)])
        self.assertEqual(self.greatest(view), (10, 0))
        view.do(("cut", "column", 1, 2))
        self.assertEqual((view.hold(), view.scroll(), self.greatest(view)), ((0, 1), (0, 0), (10, 0)))
        view = view_of(20, 6, [("size", "column", 0, 29), ("hold", 0, 1), ("scroll", 0, 29), ("cut", "column", 1, 5)])
        self.assertEqual((view.hold(), view.scroll()), ((0, 1), (0, 0)))

    def test_within_several(self):
        # Behind each deed of several, too: what was brought back doesn't come again.
        view = view_of(20, 8, [("scroll", 10, 18), ("all", (("screen", 30, 60), ("screen", 10, 30)))])
        self.assertEqual(view.scroll(), (0, 0))
        view = view_of(20, 8, [("hold", 5, 5), ("all", (("cut", "row", 0, 18), ("put", "row", 0, 9)))])
        self.assertEqual(view.hold(), (2, 5))

    def test_far(self):
        view = view_of(1000000, 1000, high=60, wide=60)
        view.do(("scroll", 59999990, 59970))
        self.assertEqual(view.scroll(), (59999990, 59970))
        for scroll in ((59999991, 0), (0, 59971)):
            with self.assertRaises(ValueError):
                view.do(("scroll", *scroll))
        view.do(("cut", "row", 0, 999999))
        self.assertEqual(view.scroll(), (50, 59970))


if __name__ == "__main__":
    unittest.main()
