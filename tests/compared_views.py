"""Views and plain views side by side."""

import unittest

from gridscope.sheet import Sheet
from gridscope.view import View
from plain_sheet import PlainSheet
from plain_view import PlainView, refused, told


def view_pair(rows, columns, deeds=(), high=1, wide=6, screen=(10, 30)):
    """A view and a plain one behind the same deeds, none of which is refused."""
    view = View(Sheet(rows, columns, high=high, wide=wide), high=screen[0], wide=screen[1])
    plain = PlainView(PlainSheet(rows, columns, high, wide), *screen)
    for deed in deeds:
        view.do(deed)
        due = plain.do(deed)
        if due is not None:
            raise AssertionError((deed, due))
    return view, plain


def view_of(rows, columns, deeds=(), high=1, wide=6, screen=(10, 30)):
    view = View(Sheet(rows, columns, high=high, wide=wide), high=screen[0], wide=screen[1])
    for deed in deeds:
        view.do(deed)
    return view


class ComparedViews(unittest.TestCase):
    maxDiff = None

    def check(self, view, plain, deed):
        """Do the deed to both; all that is told is the same behind it, refused or not. Tell the refusal's name."""
        due = plain.do(deed)
        self.assertEqual(refused(view.do, deed), due, deed)
        self.check_told(view, plain, deed)
        return due and due[0]

    def check_told(self, view, plain, why=None):
        given, due = told(view), plain.told()
        for name in due:
            self.assertEqual(given[name], due[name], (name, why))

    def check_turn(self, view, plain, word):
        """Take back or do again in both."""
        due = getattr(plain, word)()
        self.assertEqual(refused(getattr(view, word)), due)
        self.check_told(view, plain, word)
