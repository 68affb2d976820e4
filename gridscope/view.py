"""A view: a sheet seen through a screen, with a caret, and what was done to it."""

from gridscope.errors import NoPlace, NothingLeft
from gridscope.scene import drawn, laid_between, seen_boxes, steps_between
from gridscope.stand import Stand
from gridscope.view_deeds import ALL, behind_deed, check_screen


class View:
    """A view of a twin of a sheet."""

    def __init__(self, sheet, *, high=10, wide=30):
        check_screen(high, wide)
        cells = sheet.twin()
        # A page begins with these, whatever was put in and cut out since.
        self.begun = (cells.heights.many, cells.widths.many, cells.heights.common, cells.widths.common)
        self.stand = Stand(cells, (high, wide))
        # The stand ahead of the last deed, taking back or doing again: what is laid and put is told from it.
        self.before = None
        # Pairs of a deed and the stand to which taking it back, or doing it again, leads.
        self.past = []
        self.future = []

    def __eq__(self, other):
        return isinstance(other, View) and self.stand == other.stand

    def __len__(self):
        return len(seen_boxes(self.stand))

    def __repr__(self):
        return f"View {self.stand.screen[0]} {self.stand.screen[1]}"

    def __str__(self):
        return "\n".join(self.drawing())

    def turn_to(self, stand):
        """Let another stand follow this one."""
        self.before = self.stand
        self.stand = stand

    def do(self, deed):
        """Do a deed."""
        behind = behind_deed(self.stand, deed)
        self.past.append((deed, self.stand))
        self.future = []
        self.turn_to(behind)

    def look(self, row, column, *, side="left", height="top", wrap=False):
        """Do the deed `look`."""
        self.do(("look", row, column, side, height, wrap))

    def together(self, deeds):
        """Do several deeds as one."""
        self.do((ALL, tuple(deeds)))

    def undo(self):
        """Take the last deed back, and tell it."""
        if not self.past:
            raise NothingLeft("there is nothing to take back")
        deed, stand = self.past.pop()
        self.future.append((deed, self.stand))
        self.turn_to(stand)
        return deed

    def redo(self):
        """Do what was taken back last again, and tell it."""
        if not self.future:
            raise NothingLeft("there is nothing to do again")
        deed, stand = self.future.pop()
        self.past.append((deed, self.stand))
        self.turn_to(stand)
        return deed

    def deeds(self):
        """The deeds that count, the first one first."""
        return [pair[0] for pair in self.past]

    def sheet(self):
        """A twin of the sheet."""
        return self.stand.cells.twin()

    def size(self):
        """The screen's rows and columns."""
        return self.stand.screen

    def hold(self):
        """How many rows and columns are held."""
        return self.stand.held

    def scroll(self):
        """The scroll down and across."""
        return self.stand.turned

    def caret(self):
        """The caret's cell."""
        return self.stand.mark

    def drawing(self):
        """The rows of the screen."""
        return drawn(self.stand)

    def laid(self):
        """The boxes with texts that were laid for the last deed, rising."""
        return laid_between(self.before, self.stand)

    def steps(self):
        """The steps of the screen for the last deed."""
        return steps_between(self.before, self.stand)

    def point(self, v, u):
        """The point that a place shows."""
        high, wide = self.stand.screen
        if not (0 <= v < high and 0 <= u < wide):
            raise NoPlace(f"({v}, {u}) is no place of the screen")
        down, across = self.stand.lanes()
        return (down.point_of(v), across.point_of(u))

    def hit(self, v, u):
        """The box that a place hits, or None."""
        y, x = self.point(v, u)
        return self.stand.cells.box_at(y, x)

    def places(self, row, column):
        """The stretches of the screen that show a cell's box."""
        first, left, high, wide = self.stand.cells.box(row, column)
        down, across = self.stand.lanes()
        rows = down.places_of(first, high)
        columns = across.places_of(left, wide)
        if not rows or not columns:
            return []
        # Points rise with the places that show them: so the places of a box are neighbours, and one stretch.
        return [(rows[0], columns[0], len(rows), len(columns))]

    def twin(self):
        """Another view like this one, on its own from now on."""
        other = View(self.stand.cells)
        # Stands are never changed, so both may have the very same.
        other.begun = self.begun
        other.stand = self.stand
        other.before = self.before
        other.past = list(self.past)
        other.future = list(self.future)
        return other
