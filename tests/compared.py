"""Sheets and plain sheets side by side."""

import unittest

from gridscope.sheet import Sheet
from plain_sheet import PlainSheet, drawn, refused, told


def pair(rows, columns, deeds=(), high=1, wide=6):
    """A sheet and a plain one behind the same deeds, none of which is refused."""
    sheet, plain = Sheet(rows, columns, high=high, wide=wide), PlainSheet(rows, columns, high, wide)
    for deed in deeds:
        sheet.do(deed)
        plain.do(deed)
    return sheet, plain


class Compared(unittest.TestCase):
    def check(self, sheet, plain, deed):
        """Do the deed to both; all that is told is the same behind it, refused or not. Tell the refusal's name."""
        due = plain.do(deed)
        self.assertEqual(refused(sheet.do, deed), due, deed)
        self.assertEqual(told(sheet), plain.told(), deed)
        return due and due[0]

    def check_run(self, rows, columns, deeds, high=1, wide=6):
        sheet, plain = pair(rows, columns, (), high, wide)
        for deed in deeds:
            self.check(sheet, plain, deed)
        return sheet, plain

    def check_drawn(self, sheet, plain):
        self.assertEqual(drawn(sheet), plain.drawn())
