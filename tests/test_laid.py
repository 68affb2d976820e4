"""Texts laid in boxes by a look: point [4], and `laid` of gridscope/lines.py."""

import itertools
import random
import unittest

from gridscope.errors import BadLook, BadSize
from gridscope.lines import laid
from plain_text import HEIGHTS, LOOKS, SIDES, plain_laid, some_text

FAR = 10 ** 29
NO_SIDES = ("", "Left", "LEFT", "left ", " left", "top", "bottom", "center", "centre", "mid", "l", "none")
NO_HEIGHTS = ("", "Top", "TOP", "top ", " top", "left", "right", "center", "low", "mid", "t", "none")
TEXTS = ("", " ", "   ", "a", " a", "a ", "one two", "  one   two  ", "one two three four five six", "abcdefghijklm",
         "a b c d e f g h i j k l m n o p q r s t", "x" * 40, "y" * 19 + " " + "z" * 20, "longestword a b c d")


def by_look(text, high, wide, look):
    side, height, wrap = look
    return laid(text, high, wide, side=side, height=height, wrap=wrap)


class Laid(unittest.TestCase):
    def check(self, text, high, wide, look):
        told = by_look(text, high, wide, look)
        self.assertEqual(told, plain_laid(text, high, wide, look), (text, high, wide, look))
        self.assertEqual([len(row) for row in told], [wide] * high)

    def test_texts_in_all_boxes(self):
        wides = (1, 2, 3, 4, 5, 6, 7, 8, 9, 11, 12, 19, 20, 21, 39, 40, 41, 45)
        for text, high, wide, look in itertools.product(TEXTS, range(1, 10), wides, LOOKS):
            self.check(text, high, wide, look)

    def test_boxes_by_chance(self):
        chance = random.Random(9)
        for _ in range(4000):
            self.check(some_text(chance), chance.randint(1, 9), chance.randint(1, 45), chance.choice(LOOKS))

    def test_sides_by_hand(self):
        for side, due in (("left", ["ab   "]), ("middle", [" ab  "]), ("right", ["   ab"])):
            self.assertEqual(laid("ab", 1, 5, side=side), due)
        for side, due in (("left", ["ab  "]), ("middle", [" ab "]), ("right", ["  ab"])):
            self.assertEqual(laid("ab", 1, 4, side=side), due)
        for side in SIDES:
            self.assertEqual(laid("abcdef", 1, 4, side=side), ["abcd"])
            self.assertEqual(laid("abcd", 1, 4, side=side), ["abcd"])

    def test_heights_by_hand(self):
        for height, due in (("top", ["a", "b", " ", " ", " "]), ("middle", [" ", "a", "b", " ", " "]),
                            ("bottom", [" ", " ", " ", "a", "b"])):
            self.assertEqual(laid("a b", 5, 1, height=height, wrap=True), due)
        for height, due in (("top", ["a", " ", " ", " "]), ("middle", [" ", "a", " ", " "]),
                            ("bottom", [" ", " ", " ", "a"])):
            self.assertEqual(laid("a b", 4, 1, height=height), due)

    def test_more_lines_than_rows(self):
        text = "a b c d e"
        for high, top, middle, bottom in (
            (1, "a", "c", "e"), (2, "ab", "cd", "de"), (3, "abc", "bcd", "cde"), (4, "abcd", "bcde", "bcde"),
            (5, "abcde", "abcde", "abcde"),
        ):
            self.assertEqual("".join(laid(text, high, 1, height="top", wrap=True)), top)
            self.assertEqual("".join(laid(text, high, 1, height="middle", wrap=True)), middle)
            self.assertEqual("".join(laid(text, high, 1, height="bottom", wrap=True)), bottom)

    def test_blanks_of_the_text_without_wrap(self):
        self.assertEqual(laid(" ab  ", 1, 9, side="right"), ["     ab  "])
        self.assertEqual(laid(" ab  ", 1, 9, side="middle"), ["   ab    "])
        self.assertEqual(laid(" ab  ", 1, 9, side="right", wrap=True), ["       ab"])

    def test_nothing_to_lay(self):
        for text, wrap in (("", False), ("", True), ("   ", False), ("   ", True)):
            for side, height in itertools.product(SIDES, HEIGHTS):
                self.assertEqual(laid(text, 2, 3, side=side, height=height, wrap=wrap), ["   ", "   "])


class Arguments(unittest.TestCase):
    def test_left_out(self):
        self.assertEqual(laid("ab cd", 3, 4), ["ab c", "    ", "    "])
        self.assertEqual(laid("ab cd", 3, 4, wrap=True), ["ab  ", "cd  ", "    "])
        self.assertEqual(laid("ab cd", 3, 4, height="bottom"), ["    ", "    ", "ab c"])
        self.assertEqual(laid("ab", 2, 4, side="right"), ["  ab", "    "])
        self.assertEqual(laid("ab", 2, 4, side="right", height="bottom"), ["    ", "  ab"])
        self.assertEqual(laid("ab cd", 2, 4, side="right", wrap=True), ["  ab", "  cd"])
        self.assertEqual(laid("ab", 2, 4, height="bottom", wrap=True), ["    ", "ab  "])

    def test_names_in_any_order(self):
        given = {"text": "ab cd e", "high": 5, "wide": 6, "side": "middle", "height": "bottom", "wrap": True}
        due = plain_laid("ab cd e", 5, 6, ("middle", "bottom", True))
        for names in itertools.permutations(given):
            self.assertEqual(laid(**{name: given[name] for name in names}), due)
        for names in itertools.permutations(("side", "height", "wrap")):
            self.assertEqual(laid("ab cd e", 5, 6, **{name: given[name] for name in names}), due)

    def test_behind_the_star_by_name_alone(self):
        with self.assertRaises(TypeError):
            laid("ab", 2, 4, "right")

    def test_told_list_is_new(self):
        first = laid("ab", 2, 4)
        self.assertIs(type(first), list)
        first.clear()
        self.assertEqual(laid("ab", 2, 4), ["ab  ", "    "])


class Refusals(unittest.TestCase):
    def test_no_size(self):
        for high, wide in ((0, 1), (1, 0), (0, 0), (-1, 5), (5, -1), (-3, -3), (-FAR, 1), (1, -FAR), (0, 60), (9, 0)):
            for text in ("", "a", "one two"):
                for look in LOOKS:
                    with self.assertRaises(BadSize):
                        by_look(text, high, wide, look)

    def test_no_look(self):
        for side in NO_SIDES:
            for height in HEIGHTS + NO_HEIGHTS:
                with self.assertRaises(BadLook):
                    laid("a", 2, 2, side=side, height=height)
            with self.assertRaises(BadLook):
                laid("", 1, 1, side=side)
        for height in NO_HEIGHTS:
            for side in SIDES:
                with self.assertRaises(BadLook):
                    laid("a", 2, 2, side=side, height=height, wrap=True)
            with self.assertRaises(BadLook):
                laid("", 1, 1, height=height)

    def test_both_at_once(self):
        for high, wide in ((0, 1), (1, 0), (0, 0), (-1, 5), (5, -1)):
            for side, height in (("no", "top"), ("left", "no"), ("no", "no"), ("", "")):
                for wrap in (True, False):
                    with self.assertRaises(BadSize):
                        laid("a", high, wide, side=side, height=height, wrap=wrap)


if __name__ == "__main__":
    unittest.main()
