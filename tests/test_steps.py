"""Steps between drawings: points [10] and [11], and the interface under gridscope/steps.py."""

import itertools
import random
import unittest

from gridscope import steps
from gridscope.steps import behind_steps, puts
from plain_steps import plain_puts, plain_step, signs_of

FAR = 10 ** 29


def some_drawing(chance, high, wide, signs):
    return ["".join(chance.choice(signs) for _ in range(wide)) for _ in range(high)]


def lettered(high, wide):
    """A drawing whose places have as many signs as there are, so that each one's way is seen."""
    signs = "ABCDEFGHIJKLMNOPQRSTUVWXYZabcdefghijklmnopqrstuvwxyz0123456789"
    return ["".join(signs[(v * wide + u) % len(signs)] for u in range(wide)) for v in range(high)]


class Puts(unittest.TestCase):
    def check(self, old, new):
        told = puts(old, new)
        places = [(v, u + at) for _, v, u, text in told for at in range(len(text))]
        before, behind = signs_of(old), signs_of(new)
        self.assertEqual(places, sorted(place for place in before if before[place] != behind[place]))
        for word, v, u, text in told:
            self.assertEqual(word, "put")
            self.assertEqual(text, new[v][u:u + len(text)])
            self.assertGreaterEqual(len(text), 1)
        # No two puts are neighbours: each stretch is as long as can be.
        for (_, v, u, text), (_, later, first, _) in itertools.pairwise(told):
            self.assertTrue(v < later or u + len(text) < first)
        self.assertEqual(told, plain_puts(old, new))
        self.assertEqual(behind_steps(old, told), new)

    def test_by_hand(self):
        for old, new, due in (
            (["abc"], ["abc"], []),
            (["abc"], ["xbc"], [("put", 0, 0, "x")]),
            (["abc"], ["axc"], [("put", 0, 1, "x")]),
            (["abc"], ["abx"], [("put", 0, 2, "x")]),
            (["abc"], ["xyc"], [("put", 0, 0, "xy")]),
            (["abc"], ["xby"], [("put", 0, 0, "x"), ("put", 0, 2, "y")]),
            (["abc"], ["xyz"], [("put", 0, 0, "xyz")]),
            (["abc", "def"], ["abx", "yef"], [("put", 0, 2, "x"), ("put", 1, 0, "y")]),
            (["abc", "def"], ["abc", "d  "], [("put", 1, 1, "  ")]),
            (["a", "b", "c"], ["x", "b", "z"], [("put", 0, 0, "x"), ("put", 2, 0, "z")]),
            (["abcdefg"], ["aXcYZfW"], [("put", 0, 1, "X"), ("put", 0, 3, "YZ"), ("put", 0, 6, "W")]),
            (["aab"], ["baa"], [("put", 0, 0, "b"), ("put", 0, 2, "a")]),
        ):
            self.assertEqual(puts(old, new), due)
            self.check(old, new)

    def test_both_ways(self):
        old, new = ["ab  ", "cd~e"], ["ax y", "cd e"]
        self.assertEqual(puts(old, new), [("put", 0, 1, "x"), ("put", 0, 3, "y"), ("put", 1, 2, " ")])
        self.assertEqual(puts(new, old), [("put", 0, 1, "b"), ("put", 0, 3, " "), ("put", 1, 2, "~")])

    def test_all_small_rows(self):
        for wide in range(1, 6):
            rows = ["".join(row) for row in itertools.product("ab", repeat=wide)]
            for old, new in itertools.product(rows, repeat=2):
                self.check([old], [new])

    def test_by_chance(self):
        chance = random.Random(11)
        for _ in range(600):
            high, wide = chance.randint(1, 30), chance.randint(1, 60)
            old = some_drawing(chance, high, wide, "ab ")
            self.check(old, some_drawing(chance, high, wide, "ab "))
            self.check(old, [row if chance.random() < 0.7 else row[::-1] for row in old])
            self.assertEqual(puts(old, list(old)), [])

    def test_all_differ(self):
        old, new = [" " * 60] * 30, ["x" * 60] * 30
        self.assertEqual(puts(old, new), [("put", v, 0, "x" * 60) for v in range(30)])

    def test_told(self):
        old, new = ["abc", "def"], ["abx", "yef"]
        first = puts(old, new)
        self.assertIs(type(first), list)
        self.assertEqual([type(step) for step in first], [tuple, tuple])
        first.clear()
        self.assertEqual(len(puts(old, new)), 2)
        self.assertEqual((old, new), (["abc", "def"], ["abx", "yef"]))

    def test_by_names(self):
        self.assertEqual(puts(new=["b"], old=["a"]), [("put", 0, 0, "b")])


class BehindPuts(unittest.TestCase):
    def test_by_hand(self):
        rows = ["abcd", "efgh"]
        for step, due in (
            (("put", 0, 0, "x"), ["xbcd", "efgh"]), (("put", 1, 3, "x"), ["abcd", "efgx"]),
            (("put", 1, 1, "xyz"), ["abcd", "exyz"]), (("put", 0, 0, "wxyz"), ["wxyz", "efgh"]),
            (("put", 0, 2, "  "), ["ab  ", "efgh"]),
        ):
            self.assertEqual(behind_steps(rows, [step]), due)
            self.assertEqual(plain_step(rows, step), due)

    def test_one_behind_the_other(self):
        some = [("put", 0, 0, "xx"), ("put", 0, 1, "yy"), ("put", 1, 0, "z")]
        self.assertEqual(behind_steps(["abcd", "efgh"], some), ["xyyd", "zfgh"])

    def test_beyond_the_end_of_a_row(self):
        self.assertEqual(behind_steps(["abcd", "efgh"], [("put", 0, 3, "xyz")]), ["abcx", "efgh"])


class BehindShifts(unittest.TestCase):
    def check(self, rows, step):
        kept = list(rows)
        self.assertEqual(behind_steps(rows, [step]), plain_step(rows, step), step)
        self.assertEqual(rows, kept)

    def test_by_hand(self):
        rows = ["abcd", "efgh", "ijkl"]
        for step, due in (
            (("shift", 0, 0, 3, 4, 1, 0), ["efgh", "ijkl", "ijkl"]),
            (("shift", 0, 0, 3, 4, -1, 0), ["abcd", "abcd", "efgh"]),
            (("shift", 0, 0, 3, 4, 0, 1), ["bcdd", "fghh", "jkll"]),
            (("shift", 0, 0, 3, 4, 0, -1), ["aabc", "eefg", "iijk"]),
            (("shift", 0, 0, 3, 4, 2, 3), ["lbcd", "efgh", "ijkl"]),
            (("shift", 0, 0, 3, 4, 1, -1), ["aefg", "eijk", "ijkl"]),
            (("shift", 1, 1, 2, 2, 1, 0), ["abcd", "ejkh", "ijkl"]),
            (("shift", 1, 1, 2, 2, 0, -1), ["abcd", "effh", "ijjl"]),
            (("shift", 1, 1, 2, 2, 1, 1), ["abcd", "ekgh", "ijkl"]),
            (("shift", 1, 1, 2, 2, -1, -1), ["abcd", "efgh", "ijfl"]),
            (("shift", 0, 0, 3, 4, 0, 0), rows),
            (("shift", 0, 0, 3, 4, 3, 0), rows),
            (("shift", 0, 0, 3, 4, 0, -4), rows),
            (("shift", 2, 3, 1, 1, 0, 0), rows),
        ):
            self.assertEqual(behind_steps(rows, [step]), due)
            self.check(rows, step)

    def test_every_stretch_and_way(self):
        rows = lettered(4, 5)
        for v, u in itertools.product(range(4), range(5)):
            for high, wide in itertools.product(range(1, 5 - v), range(1, 6 - u)):
                for down, across in itertools.product(range(-high - 1, high + 2), range(-wide - 1, wide + 2)):
                    self.check(rows, ("shift", v, u, high, wide, down, across))

    def test_far_ways(self):
        rows = lettered(3, 4)
        for down, across in itertools.product((0, 1, FAR, -FAR, 60000000), repeat=2):
            self.check(rows, ("shift", 0, 1, 3, 3, down, across))

    def test_great_screens(self):
        chance = random.Random(10)
        for _ in range(40):
            high, wide = chance.randint(1, 30), chance.randint(1, 60)
            v, u = chance.randrange(high), chance.randrange(wide)
            step = ("shift", v, u, chance.randint(1, high - v), chance.randint(1, wide - u),
                    chance.randint(-high, high), chance.randint(-wide, wide))
            self.check(lettered(high, wide), step)

    def test_stretch_without_a_place(self):
        rows = lettered(3, 4)
        for high, wide in ((0, 2), (2, 0), (0, 0)):
            self.assertEqual(behind_steps(rows, [("shift", 1, 1, high, wide, 1, 1)]), rows)


class BehindSteps(unittest.TestCase):
    def test_none(self):
        rows = ["ab", "cd"]
        told = behind_steps(rows, [])
        self.assertEqual(told, rows)
        self.assertIsNot(told, rows)
        told[0] = "xx"
        self.assertEqual(rows, ["ab", "cd"])

    def test_in_order(self):
        rows = ["abcd", "efgh"]
        shift, put = ("shift", 0, 0, 2, 4, 1, 0), ("put", 1, 0, "xy")
        self.assertEqual(behind_steps(rows, [shift, put]), ["efgh", "xygh"])
        self.assertEqual(behind_steps(rows, [put, shift]), ["xygh", "xygh"])

    def test_by_chance(self):
        chance = random.Random(12)
        for _ in range(200):
            high, wide = chance.randint(1, 9), chance.randint(1, 12)
            rows = due = some_drawing(chance, high, wide, "abcdefgh ~")
            some = []
            for _ in range(chance.randint(1, 6)):
                v, u = chance.randrange(high), chance.randrange(wide)
                if chance.random() < 0.5:
                    some.append(("put", v, u, "x" * chance.randint(1, wide - u)))
                else:
                    some.append(("shift", v, u, chance.randint(1, high - v), chance.randint(1, wide - u),
                                 chance.randint(-3, 3), chance.randint(-3, 3)))
                due = plain_step(due, some[-1])
            handed = (list(rows), list(some))
            self.assertEqual(behind_steps(rows, some), due)
            self.assertEqual((rows, some), handed)

    def test_kinds(self):
        told = behind_steps(["ab"], [("put", 0, 0, "x"), ("shift", 0, 0, 1, 2, 0, 1)])
        self.assertIs(type(told), list)
        self.assertEqual(told, ["bb"])

    def test_by_names(self):
        self.assertEqual(behind_steps(some=[("put", 0, 0, "x")], rows=["ab"]), ["xb"])

    def test_names_of_the_file(self):
        for name in ("puts", "behind_steps"):
            self.assertEqual(getattr(steps, name).__module__, "gridscope.steps")


if __name__ == "__main__":
    unittest.main()
