"""Steps that lead from one drawing to another: shifts and puts."""

from gridscope.boxes import has, shared

PUT = "put"
SHIFT = "shift"


def row_puts(v, old, new):
    """The puts of one row of two drawings."""
    told = []
    u = 0
    while u < len(new):
        first = u
        while u < len(new) and new[u] != old[u]:
            u += 1
        if u > first:
            told.append((PUT, v, first, new[first:u]))
        u += 1
    return told


def puts(old, new):
    """The puts of just the signs that differ between two drawings of one size."""
    told = []
    for v, row in enumerate(new):
        told.extend(row_puts(v, old[v], row))
    return told


def signs_put(some):
    """How many signs are put by steps."""
    return sum([len(step[3]) for step in some if step[0] == PUT])


def with_put(row, u, text):
    """A row with a text's signs from a place on; beyond its end there is no place to stand at."""
    return (row[:u] + text + row[u + len(text):])[:len(row)]


def behind_put(rows, v, u, text):
    """The drawing behind a put."""
    return [with_put(row, u, text) if at == v else row for at, row in enumerate(rows)]


def behind_shift(rows, stretch, down, across):
    """The drawing behind a shift of a stretch of it."""
    # Only what is on the screen has signs to shift.
    within = shared(stretch, (0, 0, len(rows), len(rows[0])))
    if within is None:
        return rows
    changed = []
    for v, row in enumerate(rows):
        signs = []
        for u, sign in enumerate(row):
            moved = has(within, v, u) and has(within, v + down, u + across)
            signs.append(rows[v + down][u + across] if moved else sign)
        changed.append("".join(signs))
    return changed


def behind_steps(rows, some):
    """The drawing behind steps, a new list also where there are none."""
    drawn = list(rows)
    for word, v, u, *rest in some:
        if word == PUT:
            drawn = behind_put(drawn, v, u, rest[0])
        else:
            high, wide, down, across = rest
            drawn = behind_shift(drawn, (v, u, high, wide), down, across)
    return drawn
