"""Words and lines: point [4], and the interface under gridscope/lines.py."""

import random
import unittest

from gridscope import lines
from gridscope.errors import BadSize
from gridscope.lines import set_lines, words
from plain_text import plain_lines, plain_words, some_text

FAR = 10 ** 29
WIDTHS = range(1, 46)


def texts():
    """Texts of none to forty signs, with blanks at the ends and several together."""
    chance = random.Random(4)
    told = ["", " ", "  ", " " * 40, "a", " a", "a ", " a ", "  a  ", "a b", "a  b", "a   b ", "x" * 40,
            "x" * 20 + " " + "y" * 19, " ".join("abcdefghijklmnopqrst"), "the quick brown fox jumps over a dog",
            "   far    away  from   here   ", "ab cde fghi jklmn opqrst uvwxyz 12345678"]
    for length in range(41):
        told.append(some_text(chance)[:length].ljust(length, "q"))
        told.append((" " * (length // 3) + some_text(chance) + " " * 9)[:length])
    return told + [some_text(chance) for _ in range(60)]


def fewest(some, wide):
    """The least number of lines for words that are none of them too wide, kept in order."""
    best = [0]
    for end in range(1, len(some) + 1):
        best.append(min(best[first] + 1 for first in range(end) if len(" ".join(some[first:end])) <= wide))
    return best[-1]


def fewest_of_all(some, wide):
    """The least number of lines where too wide words begin new lines and go on behind their last piece."""
    total, group = 0, []
    for word in some:
        if len(word) > wide:
            total += fewest(group, wide)
            full = (len(word) - 1) // wide
            total += full
            group = [word[full * wide:]]
        else:
            group.append(word)
    return total + fewest(group, wide)


class Words(unittest.TestCase):
    def test_by_hand(self):
        for text, due in (
            ("", []), (" ", []), ("   ", []), (" " * 40, []), ("a", ["a"]), ("a b", ["a", "b"]),
            ("  a   bc d  ", ["a", "bc", "d"]), (" a", ["a"]), ("a ", ["a"]), ("a-b,c.d", ["a-b,c.d"]),
            ("~ ~", ["~", "~"]), ("x" * 40, ["x" * 40]), ("a a a", ["a", "a", "a"]),
        ):
            self.assertEqual(words(text), due)

    def test_all(self):
        for text in texts():
            self.assertEqual(words(text), plain_words(text))
            self.assertEqual("".join(words(text)), text.replace(" ", ""))

    def test_kind(self):
        for text in ("", "a", "a b"):
            self.assertIs(type(words(text)), list)
            words(text).append("more")
            self.assertEqual(words(text), plain_words(text))

    def test_by_name(self):
        self.assertEqual(words(text="a b"), ["a", "b"])


class WithoutWrap(unittest.TestCase):
    def test_one_line_cut(self):
        for text in texts():
            for wide in WIDTHS:
                self.assertEqual(set_lines(text, wide), [text[:wide]])
                self.assertEqual(set_lines(text, wide, wrap=False), [text[:wide]])

    def test_by_hand(self):
        self.assertEqual(set_lines("  two words ", 5), ["  two"])
        self.assertEqual(set_lines("  two words ", 1), [" "])
        self.assertEqual(set_lines("  two words ", 12), ["  two words "])
        self.assertEqual(set_lines("  two words ", 45), ["  two words "])
        self.assertEqual(set_lines("", 3), [""])
        self.assertEqual(set_lines("   ", 2), ["  "])


class WithWrap(unittest.TestCase):
    def test_by_hand(self):
        for text, wide, due in (
            ("", 5, []), ("    ", 5, []), ("", 1, []), ("a", 1, ["a"]), ("a b", 1, ["a", "b"]), ("a b", 2, ["a", "b"]),
            ("a b", 3, ["a b"]), ("a    b", 3, ["a b"]), ("  a    b  ", 3, ["a b"]),
            ("one two three", 7, ["one two", "three"]), ("one two three", 6, ["one", "two", "three"]),
            ("one two three", 12, ["one two", "three"]), ("one two three", 13, ["one two three"]),
            ("abcdefg", 3, ["abc", "def", "g"]), ("abcdefg h", 3, ["abc", "def", "g h"]),
            ("abcdefg hi", 3, ["abc", "def", "g", "hi"]), ("abcdef g", 3, ["abc", "def", "g"]),
            ("x abcdefg h", 3, ["x", "abc", "def", "g h"]), ("x abcd", 3, ["x", "abc", "d"]),
            ("x abcd e", 4, ["x", "abcd", "e"]), ("xyz abcdefghij k lm", 5, ["xyz", "abcde", "fghij", "k lm"]),
            ("abcdefghij klmnopq r", 4, ["abcd", "efgh", "ij", "klmn", "opq", "r"]),
            ("abcdefghij klmnopq r", 5, ["abcde", "fghij", "klmno", "pq r"]),
            ("x" * 40, 1, ["x"] * 40), ("x" * 40, 39, ["x" * 39, "x"]), ("x" * 40, 40, ["x" * 40]),
            ("a" * 10 + " b", 12, ["a" * 10 + " b"]), ("a" * 10 + " b", 11, ["a" * 10, "b"]),
        ):
            self.assertEqual(set_lines(text, wide, wrap=True), due, (text, wide))

    def test_all(self):
        for text in texts():
            for wide in WIDTHS:
                self.assertEqual(set_lines(text, wide, wrap=True), plain_lines(text, wide, True), (text, wide))

    def test_no_word_is_lost(self):
        for text in texts():
            for wide in WIDTHS:
                told = set_lines(text, wide, wrap=True)
                self.assertEqual("".join(told).replace(" ", ""), text.replace(" ", ""))
                if max(map(len, words(text)), default=0) <= wide:
                    self.assertEqual(" ".join(told), " ".join(words(text)))
                for line in told:
                    self.assertTrue(1 <= len(line) <= wide)
                    self.assertEqual(line, line.strip(" "))
                    self.assertNotIn("  ", line)

    def test_as_few_as_can_be(self):
        for text in texts():
            for wide in WIDTHS:
                self.assertEqual(len(set_lines(text, wide, wrap=True)), fewest_of_all(words(text), wide), (text, wide))


class Refusals(unittest.TestCase):
    def test_no_width(self):
        for text in ("", " ", "a", "some words", "x" * 40):
            for wide in (0, -1, -2, -45, -FAR):
                with self.assertRaises(BadSize):
                    set_lines(text, wide)
                for wrap in (True, False):
                    with self.assertRaises(BadSize):
                        set_lines(text, wide, wrap=wrap)

    def test_great_width(self):
        for wide in (1000, 60000, FAR):
            self.assertEqual(set_lines("some  words", wide), ["some  words"])
            self.assertEqual(set_lines("some  words", wide, wrap=True), ["some words"])

    def test_wrap_by_its_name_alone(self):
        with self.assertRaises(TypeError):
            set_lines("a b", 3, True)

    def test_by_names(self):
        self.assertEqual(set_lines(wrap=True, wide=1, text="a b"), ["a", "b"])


class Told(unittest.TestCase):
    def test_lists_are_new(self):
        for wrap in (True, False):
            first = set_lines("a b", 1, wrap=wrap)
            self.assertIs(type(first), list)
            first.append("more")
            self.assertNotEqual(set_lines("a b", 1, wrap=wrap), first)

    def test_names_of_the_file(self):
        for name in ("words", "set_lines", "laid"):
            self.assertEqual(getattr(lines, name).__module__, "gridscope.lines")


if __name__ == "__main__":
    unittest.main()
