"""How a view stands: its sheet, screen, hold, scroll and caret."""

from gridscope.lanes import Lane


class Stand:
    """All that a deed can change. One that a view has is changed no more: a deed is done to a twin of it."""

    def __init__(self, cells, screen):
        self.cells = cells
        self.screen = screen
        self.held = (0, 0)
        self.turned = (0, 0)
        self.mark = (0, 0)

    def __eq__(self, other):
        return (isinstance(other, Stand) and self.cells == other.cells and self.screen == other.screen
                and self.held == other.held and self.turned == other.turned and self.mark == other.mark)

    def lanes(self):
        """Its ways down and across."""
        return (Lane(self.cells.heights, self.screen[0], self.held[0], self.turned[0]),
                Lane(self.cells.widths, self.screen[1], self.held[1], self.turned[1]))

    def marked_box(self):
        """The box in which the caret is."""
        row, column = self.mark
        return self.cells.box(row, column)

    def show_mark(self):
        """Scroll no more than it takes to show the caret."""
        row, column, high, wide = self.marked_box()
        down, across = self.lanes()
        self.turned = (down.turn_to_show(row, high), across.turn_to_show(column, wide))

    def settle(self):
        """Bring hold, scroll and caret to what there is behind a deed."""
        rows, columns = self.held
        # The hold goes first: how far there is to scroll hangs on it.
        self.held = (min(rows, self.cells.heights.many), min(columns, self.cells.widths.many))
        down, across = self.lanes()
        self.turned = (min(down.turn, down.greatest_turn()), min(across.turn, across.greatest_turn()))
        self.mark = self.marked_box()[:2]

    def twin(self):
        """Another one like this, of the very sheet: a deed that changes the sheet takes a twin of it."""
        other = Stand(self.cells, self.screen)
        other.held = self.held
        other.turned = self.turned
        other.mark = self.mark
        return other
