"""The deeds of a view, done to a stand: those of its sheet, of the screen and of the caret, and several as one."""

from gridscope.boxes import cut_out, put_in, with_span
from gridscope.errors import BadDeed, BadHold, BadMany, BadScreen, BadScroll, BadStep, BadWay
from gridscope.refusals import asked
from gridscope.sheet_deeds import sizes_along

ALL = "all"
MOST_HELD = 5
MOST_HIGH = 30
MOST_WIDE = 60
MOST_WAYS = 99
# For each way which number of a cell it changes, and by how much.
WAYS = {
    "down": (0, 1),
    "up": (0, -1),
    "right": (1, 1),
    "left": (1, -1),
}


def check_screen(high, wide):
    """Refuse a screen that can't be."""
    if not (1 <= high <= MOST_HIGH and 1 <= wide <= MOST_WIDE):
        raise BadScreen(f"{high} by {wide} is no screen")


def can_hold(sizes, hold):
    """True where so many first things can be held."""
    return 0 <= hold <= min(MOST_HELD, sizes.many)


def do_hold(stand, rows, columns):
    """Hold so many first rows and columns."""
    if not (can_hold(stand.cells.heights, rows) and can_hold(stand.cells.widths, columns)):
        raise BadHold(f"{rows} rows and {columns} columns can't be held")
    stand.held = (rows, columns)


def do_screen(stand, high, wide):
    """Let the screen have so many rows and columns."""
    check_screen(high, wide)
    stand.screen = (high, wide)


def do_scroll(stand, down, across):
    """Scroll there."""
    rows, columns = stand.lanes()
    if not (rows.can_turn(down) and columns.can_turn(across)):
        raise BadScroll(f"({down}, {across}) is no scroll")
    stand.turned = (down, across)


def do_caret(stand, row, column):
    """Let the caret go to a cell's box, and show it."""
    stand.mark = stand.cells.box(row, column)[:2]
    stand.show_mark()


def counting_number(sizes, number, by):
    """The first number from this one on, by so much each time, that counts something, or None."""
    while 0 <= number < sizes.many:
        if sizes.size(number) > 0:
            return number
        number += by
    return None


def gone_once(stand, way):
    """Where the caret is when it has gone a way once."""
    at, by = WAYS[way]
    box = stand.marked_box()
    beside = box[at] - 1 if by < 0 else box[at] + box[at + 2]
    number = counting_number(stand.lanes()[at].sizes, beside, by)
    if number is None:
        return stand.mark
    row, column = (number, box[1]) if at == 0 else (box[0], number)
    return stand.cells.box(row, column)[:2]


def do_go(stand, way, many):
    """Let the caret go a way so many times, and show it."""
    if way not in WAYS:
        raise BadWay(f"{way} is no way")
    if many < 1 or many > MOST_WAYS:
        raise BadMany(f"{many} is no count from 1 to {MOST_WAYS}")
    for each in range(many):
        stand.mark = gone_once(stand, way)
    stand.show_mark()


def carried_mark(stand, word, axis, number, many):
    """Where the caret goes along with rows or columns put in or cut out; the sheet is that behind the deed."""
    cell = (*stand.mark, 1, 1)
    if word == "put":
        return put_in(cell, axis, number, many)[:2]
    behind = cut_out(cell, axis, number, many)
    if behind is not None:
        return behind[:2]
    last = sizes_along(stand.cells, axis).many - 1
    return with_span(cell, axis, min(number, last), 1)[:2]


def do_to_sheet(stand, deed):
    """Do a deed of the sheet."""
    stand.cells = stand.cells.twin()
    stand.cells.do(deed)
    word, *rest = deed
    if word in ("put", "cut"):
        stand.mark = carried_mark(stand, word, *rest)


DEEDS = {
    "hold": do_hold,
    "screen": do_screen,
    "scroll": do_scroll,
    "caret": do_caret,
    "go": do_go,
}


def behind_one(stand, deed):
    """The stand behind a deed other than `all`."""
    behind = stand.twin()
    word, *rest = deed
    if word in DEEDS:
        action = DEEDS[word]
        action(behind, *rest)
    else:
        do_to_sheet(behind, deed)
    behind.settle()
    return behind


def behind_all(stand, deeds):
    """The stand behind several deeds, one behind the other."""
    if ALL in [deed[0] for deed in deeds]:
        raise BadDeed("several deeds are none of several")
    behind = stand
    for where, deed in enumerate(deeds):
        told, word = asked(behind_one, behind, deed)
        if word is not None:
            raise BadStep(where, word)
        behind = told
    return behind


def behind_deed(stand, deed):
    """The stand behind a deed; the one ahead of it stays as it is."""
    if deed[0] == ALL:
        return behind_all(stand, deed[1])
    return behind_one(stand, deed)
