"""What the screen shows of a sheet, and what there is to lay and to put from one stand of a view to the next."""

from gridscope.lines import BLANK, laid_part
from gridscope.sheet import BEYOND
from gridscope.steps import SHIFT, behind_steps, puts, signs_put, with_put


def hung_on(cells, text, box, down, across):
    """What a box with a text hangs on; its seen part comes last, the numbers of its rows and those of its columns."""
    row, column, high, wide = box
    top, counted_high = cells.heights.reach(row, high)
    left, counted_wide = cells.widths.reach(column, wide)
    rows = [down.point_of(v) - top for v in down.places_of(row, high)]
    columns = [across.point_of(u) - left for u in across.places_of(column, wide)]
    return (text, counted_high, counted_wide, cells.look(row, column), rows, columns)


def seen_boxes(stand):
    """What each box with a text that is seen hangs on, by the boxes, rising."""
    down, across = stand.lanes()
    seen = {}
    for row, column, text in stand.cells.texts():
        box = stand.cells.box(row, column)
        hung = hung_on(stand.cells, text, box, down, across)
        if hung[4] and hung[5]:
            seen[box] = hung
    return seen


def empty_lane(lane):
    """A blank for each place of a way that shows a point, the sign of what is beyond for the others."""
    total = lane.sizes.total()
    return "".join([BLANK if lane.point_of(place) < total else BEYOND for place in range(lane.length)])


def empty_rows(stand):
    """The drawing of a stand as if there were no texts."""
    down, across = stand.lanes()
    row = empty_lane(across)
    return [row if sign == BLANK else BEYOND * len(row) for sign in empty_lane(down)]


def drawn(stand):
    """The drawing of a stand."""
    down, across = stand.lanes()
    rows = empty_rows(stand)
    seen = seen_boxes(stand)
    for box in seen:
        hung = seen[box]
        # Points rise with the places that show them: so the places of a box are neighbours.
        v = down.places_of(box[0], box[2])[0]
        u = across.places_of(box[1], box[3])[0]
        for at, signs in enumerate(laid_part(*hung)):
            rows[v + at] = with_put(rows[v + at], u, signs)
    return rows


def laid_between(old, new):
    """The boxes that are laid to get from one stand, or from nothing (None), to another."""
    before = {} if old is None else seen_boxes(old)
    behind = seen_boxes(new)
    return [box for box in behind if before.get(box) != behind[box]]


def shifts_between(old, new):
    """The shifts that go along with the scroll between two stands of one screen."""
    down, across = new.lanes()
    if [lane.still for lane in old.lanes()] != [down.still, across.still]:
        return []
    high, wide = new.screen
    grown_down = new.turned[0] - old.turned[0]
    grown_across = new.turned[1] - old.turned[1]
    top = min(down.still, high)
    left = min(across.still, wide)
    shifts = [(SHIFT, top, left, high - top, wide - left, grown_down, grown_across),
              (SHIFT, 0, left, top, wide - left, 0, grown_across),
              (SHIFT, top, 0, high - top, left, grown_down, 0)]
    return [step for step in shifts if step[3] > 0 and step[4] > 0 and step[5:] != (0, 0)]


def steps_between(old, new):
    """The steps of the screen from one stand, or from nothing (None), to another."""
    behind = drawn(new)
    if old is None or old.screen != new.screen:
        high, wide = new.screen
        return puts([BLANK * wide] * high, behind)
    before = drawn(old)
    plain = puts(before, behind)
    shifts = shifts_between(old, new)
    shifted = shifts + puts(behind_steps(before, shifts), behind)
    return shifted if signs_put(shifted) < signs_put(plain) else plain
