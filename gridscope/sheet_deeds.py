"""The deeds of a sheet. Each asks for all that it refuses before it changes anything."""

from gridscope.boxes import ROW, check_axis, cut_out, has, meet, put_in
from gridscope.errors import BadDeed, BadMany, BadText, Full, Inside, NotMerged, Overlap
from gridscope.lines import PLAIN_LOOK, check_look, set_lines, words
from gridscope.sizes import GREATEST_SIZE, check_number

MOST_ROWS = 1000000
MOST_COLUMNS = 1000
MOST_TEXTS = 60
MOST_LOOKS = 60
MOST_BOXES = 20
LONGEST_TEXT = 40


def most_along(axis):
    """How many rows or columns there may be."""
    return MOST_ROWS if axis == ROW else MOST_COLUMNS


def sizes_along(sheet, axis):
    """The sheet's very sizes of rows or columns."""
    check_axis(axis)
    return sheet.heights if axis == ROW else sheet.widths


def change_sizes(sheet, axis, sizes):
    """Let the rows or columns of a sheet have other sizes."""
    if axis == ROW:
        sheet.heights = sizes
    else:
        sheet.widths = sizes


def check_first(box, row, column):
    """Refuse a cell of a box other than its first one."""
    if box[:2] != (row, column):
        raise Inside(box)


def keep(kept, cell, worth, plain, most):
    """Keep what a cell has, but the plain thing, for at most so many cells."""
    if worth == plain:
        kept.pop(cell, None)
        return
    if cell not in kept and len(kept) >= most:
        raise Full(f"{most} cells have one")
    kept[cell] = worth


def do_text(sheet, row, column, text):
    """Let a cell have a text."""
    box = sheet.box(row, column)
    if len(text) > LONGEST_TEXT:
        raise BadText(f"{len(text)} signs are more than {LONGEST_TEXT}")
    check_first(box, row, column)
    keep(sheet.written, (row, column), text, "", MOST_TEXTS)


def do_look(sheet, row, column, side, height, wrap):
    """Let a cell have a look."""
    box = sheet.box(row, column)
    check_look(side, height)
    check_first(box, row, column)
    keep(sheet.looks, (row, column), (side, height, wrap), PLAIN_LOOK, MOST_LOOKS)


def without_inner(kept, box):
    """What cells have, but for all cells of a box other than its first one."""
    return {cell: kept[cell] for cell in kept if cell == box[:2] or not has(box, cell[0], cell[1])}


def do_merge(sheet, row, column, high, wide):
    """Merge the cells of a box."""
    sheet.check_cell(row, column)
    if high < 1 or wide < 1 or high == wide == 1:
        raise BadMany(f"{high} by {wide} cells are no merged box")
    sheet.check_cell(row + high - 1, column + wide - 1)
    box = (row, column, high, wide)
    for other in sheet.joined:
        if meet(box, other):
            raise Overlap(other)
    if len(sheet.joined) >= MOST_BOXES:
        raise Full(f"{MOST_BOXES} boxes are merged")
    sheet.written = without_inner(sheet.written, box)
    sheet.looks = without_inner(sheet.looks, box)
    sheet.joined = sorted(sheet.joined + [box])


def do_part(sheet, row, column):
    """Part the merged box of a cell."""
    box = sheet.box(row, column)
    if box not in sheet.joined:
        raise NotMerged(f"({row}, {column}) is in no merged box")
    sheet.joined = [other for other in sheet.joined if other != box]


def do_size(sheet, axis, number, size):
    """Set the size of a row or column."""
    sizes_along(sheet, axis).give(number, size)


def do_common(sheet, axis, number):
    """Let a row or column have the common size again."""
    sizes_along(sheet, axis).plain(number)


def check_stretch(sizes, number, many):
    """Refuse a stretch of things that aren't all there."""
    check_number(number, sizes.many)
    if many < 1 or number + many > sizes.many:
        raise BadMany(f"there are no {many} from {number} on of {sizes.many}")


def do_hide(sheet, axis, number, many):
    """Hide a stretch of rows or columns."""
    # Done to a twin: the stretch may be found too long only where some of it is hidden.
    sizes = sizes_along(sheet, axis).twin()
    check_stretch(sizes, number, many)
    for each in range(number, number + many):
        sizes.hide(each)
    change_sizes(sheet, axis, sizes)


def do_show(sheet, axis, number, many):
    """Hide a stretch of rows or columns no more."""
    sizes = sizes_along(sheet, axis)
    check_stretch(sizes, number, many)
    # The stretch may have a million things, but only these few can be hidden.
    numbers = [triple[0] for triple in sizes.exceptions()]
    for each in numbers:
        if number <= each < number + many:
            sizes.show(each)


def carried(sheet, kept, moved):
    """What cells have, carried to where their boxes are moved; gone with those that go."""
    behind = {}
    for row, column in kept:
        box = moved(sheet.box(row, column))
        if box is not None:
            behind[box[:2]] = kept[(row, column)]
    return behind


def move_boxes(sheet, moved):
    """Let all boxes go where `moved` tells of each, with what they have."""
    sheet.written = carried(sheet, sheet.written, moved)
    sheet.looks = carried(sheet, sheet.looks, moved)
    boxes = [moved(box) for box in sheet.joined]
    sheet.joined = sorted([box for box in boxes if box is not None and box[2:] != (1, 1)])


def do_put(sheet, axis, number, many):
    """Put rows or columns in."""
    sizes = sizes_along(sheet, axis).twin()
    sizes.put(number, many)
    if sizes.many > most_along(axis):
        raise Full(f"{sizes.many} are more than {most_along(axis)}")
    move_boxes(sheet, lambda box: put_in(box, axis, number, many))
    change_sizes(sheet, axis, sizes)


def do_cut(sheet, axis, number, many):
    """Cut rows or columns out."""
    sizes = sizes_along(sheet, axis).twin()
    sizes.cut(number, many)
    move_boxes(sheet, lambda box: cut_out(box, axis, number, many))
    change_sizes(sheet, axis, sizes)


def cells_alone(sheet):
    """The cells with texts that are in no merged box."""
    return [(row, column) for row, column in sheet.written if sheet.box(row, column) == (row, column, 1, 1)]


def text_width(text, wrap):
    """How wide a column must be for a text, or for its longest word."""
    if not wrap:
        return len(text)
    return max([len(word) for word in words(text)], default=0)


def fitting_width(sheet, number):
    """The width that the texts in a column ask for."""
    wanted = [text_width(sheet.written[cell], sheet.look(cell[0], cell[1])[2])
              for cell in cells_alone(sheet) if cell[1] == number]
    return max(wanted, default=0)


def fitting_height(sheet, number):
    """The height that the texts in a row ask for."""
    most = 0
    for row, column in cells_alone(sheet):
        wide = sheet.widths.size(column)
        if row == number and wide > 0:
            lines = set_lines(sheet.written[(row, column)], wide, wrap=sheet.look(row, column)[2])
            most = max(most, len(lines))
    return min(most, GREATEST_SIZE)


def do_fit(sheet, axis, number):
    """Let a row or column have the size that its texts ask for."""
    sizes = sizes_along(sheet, axis)
    fitting = fitting_height(sheet, number) if axis == ROW else fitting_width(sheet, number)
    if fitting < 1:
        sizes.plain(number)
    else:
        sizes.give(number, fitting)


DEEDS = {
    "text": do_text,
    "look": do_look,
    "merge": do_merge,
    "part": do_part,
    "size": do_size,
    "common": do_common,
    "hide": do_hide,
    "show": do_show,
    "put": do_put,
    "cut": do_cut,
    "fit": do_fit,
}


def do_deed(sheet, deed):
    """Do a deed to a sheet."""
    word, *rest = deed
    if word not in DEEDS:
        raise BadDeed(f"{word} is no deed of a sheet")
    action = DEEDS[word]
    action(sheet, *rest)
