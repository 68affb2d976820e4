"""Places, the points they show, the boxes they hit, and the stretches that show a cell: points [8] and [12]."""

import itertools
import unittest

from compared_views import ComparedViews, view_of, view_pair
from gridscope.errors import NoCell, NoPlace

FAR = 10 ** 29
BEGUN = [("merge", 1, 1, 2, 2), ("merge", 0, 3, 4, 1), ("size", "row", 2, 3), ("hide", "column", 2, 1),
         ("size", "column", 4, 5)]


class Points(unittest.TestCase):
    def test_plain(self):
        view = view_of(20, 9)
        for v, u in itertools.product(range(10), range(30)):
            self.assertEqual(view.point(v, u), (v, u))

    def test_scrolled(self):
        view = view_of(20, 9, [("scroll", 3, 7)])
        for v, u in itertools.product(range(10), range(30)):
            self.assertEqual(view.point(v, u), (v + 3, u + 7))

    def test_held(self):
        view = view_of(20, 9, [("hold", 2, 1), ("size", "row", 1, 3), ("scroll", 3, 7)])
        for v, u in itertools.product(range(10), range(30)):
            self.assertEqual(view.point(v, u), (v if v < 4 else v + 3, u if u < 6 else u + 7))

    def test_hidden_held_ones_hold_nothing(self):
        view = view_of(20, 9, [("hide", "row", 0, 2), ("hold", 2, 0), ("scroll", 3, 0)])
        self.assertEqual([view.point(v, 0)[0] for v in range(3)], [3, 4, 5])

    def test_beyond_the_sheet(self):
        view = view_of(3, 2)
        self.assertEqual(view.point(9, 29), (9, 29))
        self.assertEqual([view.hit(*place) for place in ((2, 11), (3, 11), (2, 12), (9, 29))],
                         [(2, 1, 1, 1), None, None, None])

    def test_no_places(self):
        view = view_of(20, 9, [("screen", 4, 7)])
        for v, u in ((-1, 0), (0, -1), (4, 0), (0, 7), (4, 7), (-4, -7), (FAR, 0), (0, FAR), (-FAR, -FAR), (3, 7),
                     (4, 6)):
            for ask in (view.point, view.hit):
                with self.assertRaises(NoPlace):
                    ask(v, u)
        self.assertEqual(view.point(3, 6), (3, 6))


class Hits(ComparedViews):
    def test_by_hand(self):
        view = view_of(6, 6, BEGUN + [("hold", 1, 1), ("scroll", 1, 1)], wide=3, screen=(5, 9))
        for place, due in (((0, 0), (0, 0, 1, 1)), ((0, 3), (0, 1, 1, 1)), ((0, 5), (0, 3, 4, 1)),
                           ((0, 8), (0, 4, 1, 1)),
                           ((1, 0), (2, 0, 1, 1)), ((1, 3), (1, 1, 2, 2)), ((4, 4), (3, 1, 1, 1)),
                           ((3, 5), (0, 3, 4, 1)),
                           ((4, 8), (3, 4, 1, 1))):
            self.assertEqual(view.hit(*place), due, place)

    def test_every_scroll_hold_and_place(self):
        for rows, columns in itertools.product(range(4), repeat=2):
            view, plain = view_pair(6, 6, BEGUN + [("hold", rows, columns)], wide=3, screen=(5, 9))
            for down, across in itertools.product(range(plain.stand.greatest(0) + 1),
                                                  range(plain.stand.greatest(1) + 1)):
                view.do(("scroll", down, across))
                plain.do(("scroll", down, across))
                hits = plain.stand.hits()
                self.assertEqual({place: view.hit(*place) for place in hits}, hits)

    def test_hit_and_places_agree(self):
        view = view_of(6, 6, BEGUN + [("hold", 1, 2), ("scroll", 2, 1)], wide=3, screen=(5, 9))
        hits = {place: view.hit(*place) for place in itertools.product(range(5), range(9))}
        for row, column in itertools.product(range(6), range(6)):
            places = [(v + down, u + across) for v, u, high, wide in view.places(row, column)
                      for down in range(high) for across in range(wide)]
            box = view.sheet().box(row, column)
            self.assertEqual(sorted(places), sorted(place for place in hits if hits[place] == box))

    def test_far(self):
        view = view_of(1000000, 1000, [("scroll", 999990, 5970)])
        self.assertEqual((view.hit(0, 0), view.hit(9, 29)), ((999990, 995, 1, 1), (999999, 999, 1, 1)))
        self.assertEqual(view.places(999999, 999), [(9, 24, 1, 6)])


class Places(ComparedViews):
    def test_by_hand(self):
        view = view_of(6, 6, BEGUN, wide=3, screen=(5, 9))
        for cell, due in (((0, 0), [(0, 0, 1, 3)]), ((1, 1), [(1, 3, 4, 3)]), ((2, 2), [(1, 3, 4, 3)]),
                          ((3, 3), [(0, 6, 5, 3)]),
                          ((0, 2), []), ((0, 4), []), ((5, 0), []), ((2, 0), [(2, 0, 3, 3)])):
            self.assertEqual(view.places(*cell), due, cell)

    def test_scrolled_away(self):
        view = view_of(6, 6, [("scroll", 1, 4)], wide=3, screen=(5, 9))
        self.assertEqual(view.places(0, 0), [])
        self.assertEqual(view.places(1, 1), [(0, 0, 1, 2)])
        self.assertEqual(view.places(5, 4), [(4, 8, 1, 1)])

    def test_a_box_through_the_held_rows(self):
        # Its held rows and those behind are neighbours on the screen, whatever was scrolled away between.
        view = view_of(9, 6, [("merge", 0, 0, 6, 2), ("hold", 2, 1), ("scroll", 3, 1)], wide=3, screen=(5, 9))
        self.assertEqual(view.places(3, 1), [(0, 0, 3, 5)])
        view.do(("scroll", 4, 3))
        self.assertEqual(view.places(3, 1), [(0, 0, 2, 3)])

    def test_hidden_cells(self):
        view = view_of(6, 6, [("hide", "row", 1, 1), ("merge", 3, 3, 2, 2), ("hide", "row", 3, 2)], wide=3)
        self.assertEqual([view.places(1, 0), view.places(3, 3), view.places(4, 4), view.places(2, 0)],
                         [[], [], [], [(1, 0, 1, 3)]])

    def test_every_cell_scroll_and_hold(self):
        for rows, columns in itertools.product(range(3), repeat=2):
            view, plain = view_pair(6, 6, BEGUN + [("hold", rows, columns)], wide=3, screen=(5, 9))
            for down, across in itertools.product(range(plain.stand.greatest(0) + 1),
                                                  range(0, plain.stand.greatest(1) + 1, 2)):
                view.do(("scroll", down, across))
                plain.do(("scroll", down, across))
                for cell in itertools.product(range(6), repeat=2):
                    self.assertEqual(view.places(*cell), plain.stand.places(*cell))

    def test_no_cells(self):
        view = view_of(6, 6, BEGUN)
        for cell in ((-1, 0), (0, -1), (6, 0), (0, 6), (FAR, 0), (0, FAR), (-FAR, 0), (0, -FAR), (6, -1)):
            with self.assertRaises(NoCell):
                view.places(*cell)


if __name__ == "__main__":
    unittest.main()
