"""Texts set in lines, and laid in boxes of signs by a look."""

from gridscope.errors import BadLook, BadSize

BLANK = " "
SIDES = ("left", "middle", "right")
HEIGHTS = ("top", "middle", "bottom")
PLAIN_LOOK = ("left", "top", False)


def check_wide(wide):
    """Refuse a width in which no sign has room."""
    if wide < 1:
        raise BadSize(f"{wide} is no width of a box")


def check_look(side, height):
    """Refuse a side or a height that there isn't."""
    if side not in SIDES:
        raise BadLook(f"{side} is no side")
    if height not in HEIGHTS:
        raise BadLook(f"{height} is no height")


def words(text):
    """The words of a text, parted by blanks, of which several count like one."""
    return [word for word in text.split(BLANK) if word != ""]


def pieces(word, wide):
    """A word cut into pieces of a width; one that has room is its own only piece."""
    return [word[first:first + wide] for first in range(0, len(word), wide)]


def set_lines(text, wide, *, wrap=False):
    """The lines in which a text is set, without the blanks around them."""
    check_wide(wide)
    if not wrap:
        return [text[:wide]]
    lines = []
    for word in words(text):
        if lines and len(lines[-1]) + 1 + len(word) <= wide:
            lines[-1] = lines[-1] + BLANK + word
        else:
            lines.extend(pieces(word, wide))
    return lines


def lead(free, stand):
    """How much of what is free is ahead of what stands so (below 0 where more stands than has room)."""
    if stand in ("left", "top"):
        return 0
    if stand == "middle":
        return free // 2
    return free


def line_on(lines, row, high, height):
    """The line on a row of a box so high, an empty one where none is."""
    at = row - lead(high - len(lines), height)
    return lines[at] if 0 <= at < len(lines) else ""


def spread(line, wide, side):
    """A line with blanks around it, so wide."""
    ahead = BLANK * lead(wide - len(line), side)
    return (ahead + line).ljust(wide)


def laid(text, high, wide, *, side="left", height="top", wrap=False):
    """The rows of a box so high and wide with a text laid in it."""
    if high < 1:
        raise BadSize(f"{high} is no height of a box")
    check_wide(wide)
    check_look(side, height)
    lines = set_lines(text, wide, wrap=wrap)
    return [spread(line_on(lines, row, high, height), wide, side) for row in range(high)]


def laid_part(text, high, wide, look, downs, acrosses):
    """The signs of a laid text on some of its rows and columns: a great box has too many to be laid whole."""
    side, height, wrap = look
    lines = set_lines(text, wide, wrap=wrap)
    part = []
    for down in downs:
        line = line_on(lines, down, high, height)
        first = lead(wide - len(line), side)
        part.append("".join([line[at - first] if first <= at < first + len(line) else BLANK for at in acrosses]))
    return part
