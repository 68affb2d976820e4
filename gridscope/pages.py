"""Pages: views written as the rows of their deeds, and read back."""

from gridscope.errors import BadPage, Beyond, GridError, Missing
from gridscope.sheet import Sheet
from gridscope.view import View
from gridscope.view_deeds import ALL
from gridscope.reading import read_all_row, read_deed, read_sheet_row

LINE_FEED = "\n"


def as_written(part):
    """A part of a deed as it is written."""
    if part is True:
        return "wrap"
    return "nowrap" if part is False else str(part)


def deed_rows(deed):
    """The rows of a deed, without line feeds."""
    if deed[0] != ALL:
        return [" ".join([as_written(part) for part in deed])]
    rows = [f"{ALL} {len(deed[1])}"]
    for each in deed[1]:
        rows.extend(deed_rows(each))
    return rows


def page(view):
    """A view's sheet as at first, and its deeds, as a text."""
    rows, columns, high, wide = view.begun
    told = [f"sheet {rows} {columns} {high} {wide}"]
    for deed in view.deeds():
        told.extend(deed_rows(deed))
    return "".join([row + LINE_FEED for row in told])


def first_sheet(rows):
    """The sheet of a page's first row."""
    numbers = read_sheet_row(rows[0]) if rows else None
    if numbers is None:
        raise BadPage(0)
    many_rows, many_columns, high, wide = numbers
    try:
        return Sheet(many_rows, many_columns, high=high, wide=wide)
    except GridError:
        raise BadPage(0) from None


def single_deed(rows, at):
    """The deed of one row of a page."""
    deed = read_deed(rows[at]) if at < len(rows) else None
    if deed is None:
        raise BadPage(at)
    return deed


def deed_at(rows, at):
    """The deed that begins at a row of a page."""
    many = read_all_row(rows[at])
    if many is None:
        return single_deed(rows, at)
    return (ALL, tuple([single_deed(rows, at + 1 + each) for each in range(many)]))


def do_row(view, deed, at):
    """Do the deed that begins at a row of a page."""
    try:
        view.do(deed)
    except (GridError, Missing, Beyond):
        raise BadPage(at) from None


def read_page(text):
    """The view that a page tells."""
    *rows, rest = text.split(LINE_FEED)
    view = View(first_sheet(rows))
    at = 1
    while at < len(rows):
        deed = deed_at(rows, at)
        do_row(view, deed, at)
        at += len(deed_rows(deed))
    # What is left has no line feed.
    if rest != "":
        raise BadPage(at)
    return view
