"""A sheet: cells with texts and looks, some merged to boxes, in rows and columns with sizes."""

from gridscope.boxes import COLUMN, ROW, has
from gridscope.errors import BadMany, NoCell
from gridscope.lines import BLANK, PLAIN_LOOK, laid_part
from gridscope.sheet_deeds import do_deed, most_along
from gridscope.sizes import Sizes

BEYOND = "~"


def check_count(axis, many):
    """Refuse a count of rows or columns that can't be."""
    if many < 1 or many > most_along(axis):
        raise BadMany(f"{many} is no count from 1 to {most_along(axis)}")


class Sheet:
    """A sheet of cells (row, column)."""

    def __init__(self, rows=100, columns=26, *, high=1, wide=6):
        # Both counts go first: only then may a size be refused.
        check_count(ROW, rows)
        check_count(COLUMN, columns)
        self.heights = Sizes(rows, common=high)
        self.widths = Sizes(columns, common=wide)
        # By cells; a cell with no text or with the plain look stands in neither,
        # so that equal sheets have equal dicts.
        self.written = {}
        self.looks = {}
        # The merged boxes, rising.
        self.joined = []

    def __eq__(self, other):
        return (isinstance(other, Sheet) and self.heights == other.heights and self.widths == other.widths
                and self.written == other.written and self.looks == other.looks and self.joined == other.joined)

    def __len__(self):
        return len(self.written)

    def rows(self):
        """A twin of the sizes of rows."""
        return self.heights.twin()

    def columns(self):
        """A twin of the sizes of columns."""
        return self.widths.twin()

    def check_cell(self, row, column):
        """Refuse a cell outside of the sheet."""
        if not has((0, 0, self.heights.many, self.widths.many), row, column):
            raise NoCell(f"({row}, {column}) is no cell of the sheet")

    def box(self, row, column):
        """The box of a cell, a merged one or the cell by itself."""
        self.check_cell(row, column)
        for box in self.joined:
            if has(box, row, column):
                return box
        return (row, column, 1, 1)

    def text(self, row, column):
        """The text of a cell's box, an empty one where it has none."""
        return self.written.get(self.box(row, column)[:2], "")

    def look(self, row, column):
        """The look of a cell's box."""
        return self.looks.get(self.box(row, column)[:2], PLAIN_LOOK)

    def texts(self):
        """Rising triples (row, column, text) of all cells with texts."""
        return sorted([(row, column, self.written[(row, column)]) for row, column in self.written])

    def merged(self):
        """The merged boxes, rising."""
        return list(self.joined)

    def do(self, deed):
        """Do a deed."""
        do_deed(self, deed)

    def box_at(self, y, x):
        """The box of the cell in which a point lies, or None beyond the sheet."""
        if y >= self.heights.total() or x >= self.widths.total():
            return None
        return self.box(self.heights.at(y)[0], self.widths.at(x)[0])

    def sign(self, y, x):
        """The sign at a point."""
        box = self.box_at(y, x)
        if box is None:
            return BEYOND
        row, column, high, wide = box
        text = self.written.get((row, column), "")
        if text == "":
            return BLANK
        top, counted_high = self.heights.reach(row, high)
        left, counted_wide = self.widths.reach(column, wide)
        return laid_part(text, counted_high, counted_wide, self.look(row, column), [y - top], [x - left])[0]

    def twin(self):
        """Another sheet like this one, on its own from now on."""
        other = Sheet(1, 1)
        other.heights = self.heights.twin()
        other.widths = self.widths.twin()
        other.written = {cell: self.written[cell] for cell in self.written}
        other.looks = {cell: self.looks[cell] for cell in self.looks}
        other.joined = list(self.joined)
        return other
