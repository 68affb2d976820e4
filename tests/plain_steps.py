"""Points [10] and [11] done the slow way: steps between drawings place by place."""

import itertools


def signs_of(rows):
    return {(v, u): sign for v, row in enumerate(rows) for u, sign in enumerate(row)}


def rows_of(signs):
    """The drawing of signs by places."""
    high, wide = 1 + max(v for v, _ in signs), 1 + max(u for _, u in signs)
    return ["".join(signs[v, u] for u in range(wide)) for v in range(high)]


def plain_step(rows, step):
    """The drawing behind a step, place by place."""
    old, new = signs_of(rows), signs_of(rows)
    word, v, u, *rest = step
    if word == "put":
        for at, sign in enumerate(rest[0]):
            new[v, u + at] = sign
        return rows_of(new)
    high, wide, down, across = rest
    stretch = set(itertools.product(range(v, v + high), range(u, u + wide)))
    for place in stretch:
        origin = (place[0] + down, place[1] + across)
        if origin in stretch:
            new[place] = old[origin]
    return rows_of(new)


def plain_puts(old, new):
    """The puts between two drawings, each grown sign by sign."""
    before, behind = signs_of(old), signs_of(new)
    told = []
    for v, u in sorted(place for place in behind if before[place] != behind[place]):
        if told and told[-1][1] == v and told[-1][2] + len(told[-1][3]) == u:
            told[-1] = (*told[-1][:3], told[-1][3] + behind[v, u])
        else:
            told.append(("put", v, u, behind[v, u]))
    return told


def put_count(some):
    return sum(len(step[3]) for step in some if step[0] == "put")


def plain_steps(old, new, held, grown):
    """The steps from one drawing to the next, by the held sums (None if they changed) and how the scroll grew."""
    without = plain_puts(old, new)
    if held is None or grown == (0, 0):
        return without
    shifts = []
    for rows_held, columns_held, down, across in ((False, False, *grown), (True, False, 0, grown[1]),
                                                  (False, True, grown[0], 0)):
        stretch = [place for place in sorted(signs_of(new))
                   if (place[0] < held[0]) == rows_held and (place[1] < held[1]) == columns_held]
        if stretch and (down, across) != (0, 0):
            (v, u), (last, end) = stretch[0], stretch[-1]
            shifts.append(("shift", v, u, last - v + 1, end - u + 1, down, across))
    drawn = old
    for step in shifts:
        drawn = plain_step(drawn, step)
    shifted = shifts + plain_puts(drawn, new)
    return shifted if put_count(shifted) < put_count(without) else without
