"""A sheet kept cell by cell, the points [5], [6], [7] and [15] done the slow way, and what a sheet tells in all."""

from plain_row import PlainRow
from plain_row import told as told_of_row
from plain_text import HEIGHTS, PLAIN, SIDES, plain_laid, plain_lines, plain_words

AXES = ("row", "column")


class Group:
    """The cells of one box, with what they have together."""

    def __init__(self, text="", look=PLAIN):
        self.text = text
        self.look = look


class PlainSheet:
    """A grid of cells; the cells of a merged box have one group."""

    def __init__(self, rows, columns, high=1, wide=6):
        self.sizes = {"row": PlainRow(rows, high), "column": PlainRow(columns, wide)}
        self.grid = [[Group() for _ in range(columns)] for _ in range(rows)]

    def count(self, axis):
        return len(self.sizes[axis].things)

    def cells(self, group):
        return [(row, column) for row, groups in enumerate(self.grid)
                for column, other in enumerate(groups) if other is group]

    def boxes(self):
        """The box of each group, by its first cell."""
        told = {}
        for row, groups in enumerate(self.grid):
            for column, group in enumerate(groups):
                first = told.get(id(group), (row, column, 0, 0))
                told[id(group)] = (first[0], first[1], row - first[0] + 1, column - first[1] + 1)
        return sorted(told.values())

    def box(self, row, column):
        cells = self.cells(self.grid[row][column])
        return (*cells[0], cells[-1][0] - cells[0][0] + 1, cells[-1][1] - cells[0][1] + 1)

    def merged(self):
        return [box for box in self.boxes() if box[2:] != (1, 1)]

    def firsts(self):
        """The first cell of each box and its group."""
        return [(box[0], box[1], self.grid[box[0]][box[1]]) for box in self.boxes()]

    def texts(self):
        return [(row, column, group.text) for row, column, group in self.firsts() if group.text]

    def looks(self):
        return [(row, column, group.look) for row, column, group in self.firsts() if group.look != PLAIN]

    def told(self):
        """What `told` below must tell of a sheet like this one."""
        boxes = {}
        for box in self.boxes():
            for row in range(box[0], box[0] + box[2]):
                for column in range(box[1], box[1] + box[3]):
                    boxes[row, column] = box
        return {
            "rows": self.sizes["row"].told(),
            "columns": self.sizes["column"].told(),
            "texts": self.texts(),
            "merged": self.merged(),
            "len": len(self.texts()),
            "box": [[boxes[row, column] for column in range(self.count("column"))]
                    for row in range(self.count("row"))],
            "text": [[group.text for group in groups] for groups in self.grid],
            "look": [[group.look for group in groups] for groups in self.grid],
        }

    def drawn(self):
        """The rows of signs of all points, and some beyond."""
        rows, columns = self.sizes["row"].points(), self.sizes["column"].points()
        signs = {}
        for row, column, group in self.firsts():
            box = self.box(row, column)
            down = [y for y, (number, _) in enumerate(rows) if row <= number < row + box[2]]
            across = [x for x, (number, _) in enumerate(columns) if column <= number < column + box[3]]
            if down and across:
                told = plain_laid(group.text, len(down), len(across), group.look)
                signs.update({(y, x): told[v][u] for v, y in enumerate(down) for u, x in enumerate(across)})
        return ["".join(signs.get((y, x), "~") for x in range(len(columns) + 3)) for y in range(len(rows) + 3)]

    def refusal(self, deed):
        """The refusal that is due as a pair (name, taken box or None), or None."""
        word, *rest = deed
        if word in ("text", "look", "merge", "part"):
            return self.cell_refusal(word, *rest)
        if rest[0] not in AXES:
            return ("BadAxis", None)
        refused = self.axis_refusal(word, *rest)
        return None if refused is None else (refused, None)

    def no_cell(self, row, column):
        return not (0 <= row < self.count("row") and 0 <= column < self.count("column"))

    def cell_refusal(self, word, row, column, *rest):
        if self.no_cell(row, column):
            return ("NoCell", None)
        box = self.box(row, column)
        if word == "part":
            return ("NotMerged", None) if box[2:] == (1, 1) else None
        if word == "merge":
            return self.merge_refusal(row, column, *rest)
        if word == "text" and len(rest[0]) > 40:
            return ("BadText", None)
        if word == "look" and (rest[0] not in SIDES or rest[1] not in HEIGHTS):
            return ("BadLook", None)
        if box[:2] != (row, column):
            return ("Inside", box)
        kept = self.texts() if word == "text" else self.looks()
        nothing = rest == ("",) if word == "text" else rest == PLAIN
        if not nothing and len(kept) >= 60 and (row, column) not in [each[:2] for each in kept]:
            return ("Full", None)
        return None

    def merge_refusal(self, row, column, high, wide):
        if high < 1 or wide < 1 or high * wide == 1:
            return ("BadMany", None)
        if self.no_cell(row + high - 1, column + wide - 1):
            return ("NoCell", None)
        for box in self.merged():
            if set(self.inner(box)) & set(self.inner((row, column, high, wide))):
                return ("Overlap", box)
        return ("Full", None) if len(self.merged()) >= 20 else None

    def inner(self, box):
        return [(box[0] + down, box[1] + across) for down in range(box[2]) for across in range(box[3])]

    def axis_refusal(self, word, axis, number, *rest):
        sizes, count = self.sizes[axis], self.count(axis)
        if word == "put":
            refused = sizes.refusal(("put", number, rest[0]))
            most = 1000000 if axis == "row" else 1000
            return refused or ("Full" if count + rest[0] > most else None)
        if word == "cut":
            return sizes.refusal(("cut", number, rest[0]))
        if not 0 <= number < count:
            return "NoIndex"
        if word == "size":
            return sizes.refusal(("give", number, rest[0]))
        if word == "fit":
            wanted = self.fitting(axis, number)
            return sizes.refusal(("give", number, wanted)) if wanted else None
        if word in ("hide", "show") and (rest[0] < 1 or number + rest[0] > count):
            return "BadMany"
        if word == "hide":
            odd = {each[0] for each in sizes.exceptions()} | set(range(number, number + rest[0]))
            return "Full" if len(odd) > 60 else None
        return None

    def fitting(self, axis, number):
        """The size that the texts ask for, 0 where they ask for none."""
        wanted = [0]
        for row, column, text in self.texts():
            wrap = self.grid[row][column].look[2]
            if (row if axis == "row" else column) != number or self.box(row, column)[2:] != (1, 1):
                continue
            if axis == "column":
                wanted.append(max(map(len, plain_words(text)), default=0) if wrap else len(text))
            elif self.sizes["column"].counted(column):
                wanted.append(len(plain_lines(text, self.sizes["column"].counted(column), wrap)))
        return max(wanted)

    def do(self, deed):
        """Do a deed; tell the refusal, or None."""
        refused = self.refusal(deed)
        if refused is None:
            word, *rest = deed
            getattr(self, "do_" + word)(*rest)
        return refused

    def do_text(self, row, column, text):
        self.grid[row][column].text = text

    def do_look(self, row, column, side, height, wrap):
        self.grid[row][column].look = (side, height, wrap)

    def do_merge(self, row, column, high, wide):
        for down, across in self.inner((row, column, high, wide)):
            self.grid[down][across] = self.grid[row][column]

    def do_part(self, row, column):
        for down, across in self.cells(self.grid[row][column])[1:]:
            self.grid[down][across] = Group()

    def do_size(self, axis, number, size):
        self.sizes[axis].do(("give", number, size))

    def do_common(self, axis, number):
        self.sizes[axis].do(("plain", number))

    def do_hide(self, axis, number, many):
        for each in range(number, number + many):
            self.sizes[axis].do(("hide", each))

    def do_show(self, axis, number, many):
        for each in range(number, number + many):
            self.sizes[axis].do(("show", each))

    def do_fit(self, axis, number):
        wanted = self.fitting(axis, number)
        self.sizes[axis].do(("give", number, wanted) if wanted else ("plain", number))

    def turn(self):
        """Rows for columns in the grid."""
        self.grid = [list(groups) for groups in zip(*self.grid)]

    def do_put(self, axis, number, many):
        self.sizes[axis].do(("put", number, many))
        if axis == "column":
            self.turn()
        ahead = self.grid[number - 1] if number else [None] * len(self.grid[0])
        behind = self.grid[number] if number < len(self.grid) else [None] * len(self.grid[0])
        # What has cells on both sides gets the new ones between them.
        self.grid[number:number] = [[one if one is other else Group() for one, other in zip(ahead, behind)]
                                    for _ in range(many)]
        if axis == "column":
            self.turn()

    def do_cut(self, axis, number, many):
        self.sizes[axis].do(("cut", number, many))
        if axis == "column":
            self.turn()
        del self.grid[number:number + many]
        if axis == "column":
            self.turn()


def told(sheet):
    """All that a sheet tells."""
    rows, columns = sheet.rows(), sheet.columns()
    cells = [[(row, column) for column in range(columns.many)] for row in range(rows.many)]
    return {
        "rows": told_of_row(rows),
        "columns": told_of_row(columns),
        "texts": sheet.texts(),
        "merged": sheet.merged(),
        "len": len(sheet),
        "box": [[sheet.box(*cell) for cell in some] for some in cells],
        "text": [[sheet.text(*cell) for cell in some] for some in cells],
        "look": [[sheet.look(*cell) for cell in some] for some in cells],
    }


def drawn(sheet):
    """The rows of signs of all points of a sheet, and three beyond."""
    rows, columns = sheet.rows().total(), sheet.columns().total()
    return ["".join(sheet.sign(y, x) for x in range(columns + 3)) for y in range(rows + 3)]


def refused(ask, *handed):
    """The refusal as a pair (name, taken box or None), or what was told."""
    try:
        return ask(*handed)
    except (ValueError, LookupError) as why:
        return (type(why).__name__, getattr(why, "taken", None))
