"""Many deeds to a view one behind the other, some refused, some taken back and done again: points [8] to [18]."""

import random
import unittest

from compared_views import ComparedViews, view_pair
from plain_text import LOOKS, some_text
from test_sheet_runs import some_deed as some_sheet_deed


def some_screen_deed(chance, plain):
    """A deed of the screen or of the caret by chance, often one that is let, sometimes one beyond."""
    stand = plain.stand
    word = chance.choice(("hold", "screen", "scroll", "scroll", "scroll", "caret", "go", "go"))
    if word == "hold":
        return (word, chance.choice((0, 0, 1, 2, 5, 6, -1)), chance.choice((0, 0, 1, 2, 5, 6, -1)))
    if word == "screen":
        return (word, chance.choice((1, 2, 4, 6, 9, 12, 0, 31)), chance.choice((1, 3, 5, 8, 14, 20, 0, 61)))
    if word == "scroll":
        beyond = int(chance.random() < 0.1)
        return (word, chance.randint(-beyond, stand.greatest(0) + beyond),
                chance.randint(-beyond, stand.greatest(1) + beyond))
    if word == "caret":
        return (word, chance.randint(-1, stand.count(0)), chance.randint(-1, stand.count(1)))
    return (word, chance.choice(("down", "up", "right", "left", "down", "right", "no")),
            chance.choice((1, 1, 1, 2, 3, 99, 0, 100)))


def some_deed(chance, plain):
    if chance.random() < 0.5:
        return some_sheet_deed(chance, plain.stand.sheet)
    return some_screen_deed(chance, plain)


def some_step(chance, plain):
    """A deed, several as one, taking back or doing again."""
    luck = chance.random()
    if luck < 0.1:
        return "undo"
    if luck < 0.17:
        return "redo"
    if luck < 0.25:
        deeds = tuple(some_deed(chance, plain) for _ in range(chance.randint(0, 4)))
        return ("all", deeds if chance.random() < 0.95 else (*deeds, ("all", ())))
    return some_deed(chance, plain)


def filled(chance, rows, columns):
    """Deeds that fill a sheet: texts everywhere, looks, a merged box, and a hold."""
    deeds = [("text", row, column, some_text(chance, 14)) for row in range(rows) for column in range(columns)]
    deeds += [("look", chance.randrange(rows), chance.randrange(columns), *chance.choice(LOOKS)) for _ in range(9)]
    high, wide = chance.randint(2, 3), chance.randint(1, 3)
    deeds.append(("merge", chance.randint(0, rows - high), chance.randint(0, columns - wide), high, wide))
    deeds.append(("hold", chance.randint(0, 2), chance.randint(0, 2)))
    return deeds


class Runs(ComparedViews):
    def run_on(self, chance, view, plain, many, some):
        """So many steps by chance to both."""
        self.check_told(view, plain)
        for _ in range(many):
            step = some(chance, plain)
            if step in ("undo", "redo"):
                self.check_turn(view, plain, step)
            else:
                self.check(view, plain, step)

    def run_from_nothing(self, seed):
        chance = random.Random(seed)
        sizes = {"high": chance.randint(1, 3), "wide": chance.randint(1, 6)}
        screen = (chance.randint(1, 9), chance.randint(1, 20))
        view, plain = view_pair(chance.randint(1, 7), chance.randint(1, 7), (), screen=screen, **sizes)
        self.run_on(chance, view, plain, 40, some_step)

    def run_over_texts(self, seed):
        chance = random.Random(seed)
        rows, columns = chance.randint(4, 7), chance.randint(4, 7)
        sizes = {"high": chance.randint(1, 3), "wide": chance.randint(2, 6)}
        screen = (chance.randint(3, 9), chance.randint(6, 20))
        view, plain = view_pair(rows, columns, filled(chance, rows, columns), screen=screen, **sizes)
        self.run_on(chance, view, plain, 15, some_screen_deed)
        self.run_on(chance, view, plain, 10, some_step)

    def test_from_nothing(self):
        for seed in range(50):
            with self.subTest(seed=seed):
                self.run_from_nothing(seed)

    def test_over_texts(self):
        for seed in range(30):
            with self.subTest(seed=seed):
                self.run_over_texts(seed)


if __name__ == "__main__":
    unittest.main()
