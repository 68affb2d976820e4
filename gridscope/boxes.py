"""Boxes of cells: tuples (row, column, high, wide)."""

from gridscope.errors import BadAxis

ROW = "row"
COLUMN = "column"


def has(box, row, column):
    """True where the cell is in the box."""
    first, left, high, wide = box
    return first <= row < first + high and left <= column < left + wide


def meet(one, other):
    """True where the boxes have a cell in common."""
    return shared(one, other) is not None


def shared(one, other):
    """The box of the common cells, or None."""
    row = max(one[0], other[0])
    column = max(one[1], other[1])
    high = min(one[0] + one[2], other[0] + other[2]) - row
    wide = min(one[1] + one[3], other[1] + other[3]) - column
    if high < 1 or wide < 1:
        return None
    return (row, column, high, wide)


def check_axis(axis):
    """Refuse what is no axis."""
    if axis not in (ROW, COLUMN):
        raise BadAxis(f"{axis} is no axis")


def span(box, axis):
    """The first number of a box along an axis, and how many it has."""
    row, column, high, wide = box
    return (row, high) if axis == ROW else (column, wide)


def with_span(box, axis, first, many):
    """The box with another first number along an axis, and so many."""
    row, column, high, wide = box
    return (first, column, many, wide) if axis == ROW else (row, first, high, many)


def put_in(box, axis, number, many):
    """The box behind putting so many rows or columns in at a number."""
    check_axis(axis)
    first, length = span(box, axis)
    if first >= number:
        return with_span(box, axis, first + many, length)
    if first + length > number:
        return with_span(box, axis, first, length + many)
    return box


def cut_out(box, axis, number, many):
    """The box behind cutting so many rows or columns out from a number on, or None."""
    check_axis(axis)
    first, length = span(box, axis)
    behind = number + many
    ahead = max(0, min(first, behind) - number)
    within = max(0, min(first + length, behind) - max(first, number))
    if within == length:
        return None
    return with_span(box, axis, first - ahead, length - within)
