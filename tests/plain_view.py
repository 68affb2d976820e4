"""A view kept the slow way: the points [8] to [17] done place by place, and what a view tells in all."""

import copy

from plain_sheet import told as told_of_sheet
from plain_steps import plain_steps
from plain_text import plain_laid

AXES = ("row", "column")
SHEET_DEEDS = ("text", "look", "merge", "part", "size", "common", "hide", "show", "put", "cut", "fit")
WAYS = {"down": (0, 1), "up": (0, -1), "right": (1, 1), "left": (1, -1)}


class PlainStand:
    """All that a deed can change, by axes where there are two of a thing."""

    def __init__(self, sheet, high, wide):
        self.sheet = sheet
        self.screen = [high, wide]
        self.hold = [0, 0]
        self.scroll = [0, 0]
        self.caret = [0, 0]

    def count(self, side):
        return self.sheet.count(AXES[side])

    def counted(self, side):
        """What each row or column counts."""
        sizes = self.sheet.sizes[AXES[side]]
        return [sizes.counted(number) for number in range(self.count(side))]

    def held(self, side):
        return sum(self.counted(side)[:self.hold[side]])

    def greatest(self, side):
        if self.held(side) >= self.screen[side]:
            return 0
        return max(0, sum(self.counted(side)) - self.screen[side])

    def point(self, side, place):
        return place if place < self.held(side) else place + self.scroll[side]

    def shown(self, side):
        """For each place the number of the row or column whose point it shows, or None."""
        numbers = [number for number, counted in enumerate(self.counted(side)) for _ in range(counted)]
        points = [self.point(side, place) for place in range(self.screen[side])]
        return [numbers[point] if point < len(numbers) else None for point in points]

    def hits(self):
        """The box that each place hits, None for none."""
        rows, columns = self.shown(0), self.shown(1)
        boxes = {}
        for box in self.sheet.boxes():
            boxes.update({cell: box for cell in self.sheet.inner(box)})
        return {(v, u): boxes.get((row, column)) for v, row in enumerate(rows) for u, column in enumerate(columns)}

    def begin(self, side, box):
        """Where a box begins."""
        return sum(self.counted(side)[:box[side]])

    def length(self, side, box):
        """What a box counts."""
        return sum(self.counted(side)[box[side]:box[side] + box[side + 2]])

    def seen(self):
        """What each box with a text that is seen hangs on, and by places its signs."""
        told = {}
        hits = self.hits()
        for box in set(hits.values()) - {None}:
            group = self.sheet.grid[box[0]][box[1]]
            if group.text:
                places = [place for place in hits if hits[place] == box]
                rows = sorted({self.point(0, v) - self.begin(0, box) for v, _ in places})
                columns = sorted({self.point(1, u) - self.begin(1, box) for _, u in places})
                told[box] = (group.text, group.look, self.length(0, box), self.length(1, box), rows, columns)
        return told

    def drawing(self):
        hits, laid = self.hits(), {}
        for box, (text, look, high, wide, _, _) in self.seen().items():
            laid[box] = plain_laid(text, high, wide, look)
        rows = []
        for v in range(self.screen[0]):
            row = ""
            for u in range(self.screen[1]):
                box = hits[v, u]
                if box is None:
                    row += "~"
                elif box not in laid:
                    row += " "
                else:
                    row += laid[box][self.point(0, v) - self.begin(0, box)][self.point(1, u) - self.begin(1, box)]
            rows.append(row)
        return rows

    def places(self, row, column):
        """The stretches of a cell, from all places that hit its box."""
        box, hits = self.sheet.box(row, column), self.hits()
        rows = runs({v for v, u in hits if hits[v, u] == box})
        columns = runs({u for v, u in hits if hits[v, u] == box})
        return sorted((v, u, high, wide) for v, high in rows for u, wide in columns)

    def box_of_caret(self):
        return self.sheet.box(*self.caret)

    def show(self):
        """Show the caret: of all scrolls that show its box as it must be the nearest one."""
        box = self.box_of_caret()
        for side in (0, 1):
            begin, length = self.begin(side, box), self.length(side, box)
            held, places = self.held(side), self.screen[side]
            if length == 0 or begin < held or held >= places:
                continue
            whole = range(begin, begin + length)
            good = []
            for scroll in range(self.greatest(side) + 1):
                part = range(held + scroll, places + scroll)
                if len(whole) > len(part) and part[0] == begin or whole[0] in part and whole[-1] in part:
                    good.append(scroll)
            self.scroll[side] = min(good, key=lambda scroll: abs(scroll - self.scroll[side]))

    def go(self, way):
        side, by = WAYS[way]
        box = self.box_of_caret()
        counted = self.counted(side)
        behind = [number for number in range(box[side] + box[side + 2], len(counted)) if counted[number]]
        ahead = [number for number in range(box[side]) if counted[number]]
        some = behind[:1] if by > 0 else ahead[-1:]
        if some:
            self.caret[side] = some[0]
            self.caret = list(self.box_of_caret()[:2])

    def settle(self):
        for side in (0, 1):
            self.hold[side] = min(self.hold[side], self.count(side))
        for side in (0, 1):
            self.scroll[side] = min(self.scroll[side], self.greatest(side))
        self.caret = list(self.box_of_caret()[:2])

    def do_to_sheet(self, deed):
        group = self.sheet.grid[self.caret[0]][self.caret[1]]
        refused = self.sheet.do(deed)
        cells = self.sheet.cells(group)
        if cells:
            self.caret = list(cells[0])
        elif deed[0] == "cut":
            side = AXES.index(deed[1])
            self.caret[side] = min(deed[2], self.count(side) - 1)
        return refused

    def do(self, deed):
        """Do a deed; tell the refusal as a pair (name, taken box or None), or None."""
        word, *rest = deed
        if word in SHEET_DEEDS:
            refused = self.do_to_sheet(deed)
        else:
            name = getattr(self, "do_" + word)(*rest)
            refused = None if name is None else (name, None)
        if refused is None:
            self.settle()
        return refused

    def do_hold(self, rows, columns):
        for side, hold in enumerate((rows, columns)):
            if hold not in range(min(5, self.count(side)) + 1):
                return "BadHold"
        self.hold = [rows, columns]
        return None

    def do_screen(self, high, wide):
        if high not in range(1, 31) or wide not in range(1, 61):
            return "BadScreen"
        self.screen = [high, wide]
        return None

    def do_scroll(self, down, across):
        for side, scroll in enumerate((down, across)):
            if scroll not in range(self.greatest(side) + 1):
                return "BadScroll"
        self.scroll = [down, across]
        return None

    def do_caret(self, row, column):
        if self.sheet.no_cell(row, column):
            return "NoCell"
        self.caret = list(self.sheet.box(row, column)[:2])
        self.show()
        return None

    def do_go(self, way, many):
        if way not in WAYS:
            return "BadWay"
        if many not in range(1, 100):
            return "BadMany"
        for _ in range(many):
            self.go(way)
        self.show()
        return None


def runs(numbers):
    """The longest runs of neighbours as pairs (first, how many)."""
    return [(first, next(many for many in range(1, 99) if first + many not in numbers))
            for first in sorted(numbers) if first - 1 not in numbers]


class PlainView:
    """Stands by copies, the last one in use; those behind it can be done again."""

    def __init__(self, sheet, high=10, wide=30):
        self.stand = PlainStand(copy.deepcopy(sheet), high, wide)
        self.before = None
        self.past = []
        self.future = []

    def refusal_of_all(self, stand, deeds):
        """The refusal of the first deed that is refused, the others done to the stand; fields `where` and `word`."""
        if any(deed[0] == "all" for deed in deeds):
            return ("BadDeed", None)
        for where, deed in enumerate(deeds):
            refused = stand.do(deed)
            if refused is not None:
                return ("BadStep", (where, refused[0]))
        return None

    def do(self, deed):
        stand = copy.deepcopy(self.stand)
        refused = self.refusal_of_all(stand, deed[1]) if deed[0] == "all" else stand.do(deed)
        if refused is None:
            self.past.append((deed, self.stand))
            self.future = []
            self.before, self.stand = self.stand, stand
        return refused

    def turn(self, some, others):
        if not some:
            return ("NothingLeft", None)
        deed, stand = some.pop()
        others.append((deed, self.stand))
        self.before, self.stand = self.stand, stand
        return deed

    def undo(self):
        return self.turn(self.past, self.future)

    def redo(self):
        return self.turn(self.future, self.past)

    def laid(self):
        before = {} if self.before is None else self.before.seen()
        behind = self.stand.seen()
        return sorted(box for box in behind if box not in before or before[box] != behind[box])

    def steps(self):
        old, new = self.before, self.stand
        high, wide = new.screen
        if old is None or old.screen != new.screen:
            return plain_steps([" " * wide] * high, new.drawing(), None, (0, 0))
        held = [stand.held(side) for stand in (old, new) for side in (0, 1)]
        grown = (new.scroll[0] - old.scroll[0], new.scroll[1] - old.scroll[1])
        return plain_steps(old.drawing(), new.drawing(), held[:2] if held[:2] == held[2:] else None, grown)

    def told(self):
        """What `told` below must tell of a view like this one."""
        stand, hits = self.stand, self.stand.hits()
        return {
            "sheet": stand.sheet.told(),
            "size": tuple(stand.screen),
            "hold": tuple(stand.hold),
            "scroll": tuple(stand.scroll),
            "caret": tuple(stand.caret),
            "len": len(stand.seen()),
            "drawing": stand.drawing(),
            "laid": self.laid(),
            "steps": self.steps(),
            "deeds": [deed for deed, _ in self.past],
            "points": [(stand.point(0, v), stand.point(1, u)) for v, u in sorted(hits)],
            "hits": [hits[place] for place in sorted(hits)],
            "places": [stand.places(row, column) for row in range(stand.count(0)) for column in range(stand.count(1))],
        }


def told(view):
    """All that a view tells."""
    sheet = view.sheet()
    places = [(v, u) for v in range(view.size()[0]) for u in range(view.size()[1])]
    return {
        "sheet": told_of_sheet(sheet),
        "size": view.size(),
        "hold": view.hold(),
        "scroll": view.scroll(),
        "caret": view.caret(),
        "len": len(view),
        "drawing": view.drawing(),
        "laid": view.laid(),
        "steps": view.steps(),
        "deeds": view.deeds(),
        "points": [view.point(*place) for place in places],
        "hits": [view.hit(*place) for place in places],
        "places": [view.places(row, column) for row in range(sheet.rows().many)
                   for column in range(sheet.columns().many)],
    }


def refused(ask, *handed):
    """The refusal as a pair (name, its field or fields or None), or what was told."""
    try:
        return ask(*handed)
    except (ValueError, LookupError) as why:
        fields = (why.where, why.word) if hasattr(why, "where") else getattr(why, "taken", None)
        return (type(why).__name__, fields)
