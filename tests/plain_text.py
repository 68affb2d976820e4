"""Point [4] done the slow way: texts set in lines and laid in boxes sign by sign."""

import itertools
import re

SIDES = ("left", "middle", "right")
HEIGHTS = ("top", "middle", "bottom")
LOOKS = list(itertools.product(SIDES, HEIGHTS, (False, True)))
PLAIN = ("left", "top", False)


def plain_words(text):
    return re.findall("[^ ]+", text)


def plain_lines(text, wide, wrap):
    if not wrap:
        return ["".join(sign for at, sign in enumerate(text) if at < wide)]
    lines, room = [], 0
    for word in plain_words(text):
        if 1 + len(word) <= room:
            lines[-1] += " " + word
            room -= 1 + len(word)
            continue
        while len(word) > wide:
            lines.append(word[:wide])
            word = word[wide:]
        lines.append(word)
        room = wide - len(word)
    return lines


def half(number):
    """Half of a number, rounded down, below 0 too."""
    return max(each for each in range(-abs(number) - 1, abs(number) + 1) if 2 * each <= number)


def first_of(stand, free):
    """Where that begins of which so much is free around it."""
    return {"left": 0, "top": 0, "middle": half(free), "right": free, "bottom": free}[stand]


def plain_laid(text, high, wide, look):
    side, height, wrap = look
    lines = plain_lines(text, wide, wrap)
    signs = {}
    for at, line in enumerate(lines):
        row = first_of(height, high - len(lines)) + at
        for place, sign in enumerate(line):
            signs[row, first_of(side, wide - len(line)) + place] = sign
    return ["".join(signs.get((row, column), " ") for column in range(wide)) for row in range(high)]


def some_text(chance, longest=40):
    """A text of words and blanks by chance, of a length by chance."""
    many = chance.randint(0, longest)
    blanks = chance.choice((0, 1, 2, 4))
    signs = "ab!#$&'()*+,-./09:;<=>?@AZ[]^_`z{|}~" + " " * 10 * blanks
    return "".join(chance.choice(signs) for _ in range(many))
