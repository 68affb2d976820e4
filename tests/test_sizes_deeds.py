"""Deeds of rows of sizes, one by one and one behind the other: points [1], [2], [3] and [15]."""

import itertools
import random
import unittest

from gridscope.sizes import Sizes
from plain_row import PlainRow, do, told

FAR = 10 ** 29


def pair(many, common, deeds):
    """A row of sizes and a plain one behind the same deeds."""
    row, plain = Sizes(many, common=common), PlainRow(many, common)
    for deed in deeds:
        do(row, deed)
        plain.do(deed)
    return row, plain


class Compared(unittest.TestCase):
    def check(self, row, plain, deed):
        """Do the deed to both; all that is told is the same behind it, refused or not."""
        self.assertEqual(do(row, deed), plain.do(deed), deed)
        self.assertEqual(told(row), plain.told(), deed)

    def check_run(self, many, common, deeds):
        row, plain = Sizes(many, common=common), PlainRow(many, common)
        for deed in deeds:
            self.check(row, plain, deed)
        return row


class Deeds(Compared):
    def test_set(self):
        for size in range(1, 61):
            self.check_run(4, 7, [("give", 2, size), ("give", 0, 61 - size), ("give", 2, 7)])

    def test_set_beyond(self):
        begun = [("give", 1, 5), ("hide", 2)]
        numbers, some_sizes = (*range(-4, 6), FAR, -FAR), (0, -1, 61, 100, FAR, -FAR, 1, 60)
        for number, size in itertools.product(numbers, some_sizes):
            row, plain = pair(4, 2, begun)
            self.check(row, plain, ("give", number, size))

    def test_refusals_by_name(self):
        row = Sizes(4)
        self.assertEqual(do(row, ("give", 4, 0)), "NoIndex")
        self.assertEqual(do(row, ("give", -1, 61)), "NoIndex")
        self.assertEqual(do(row, ("give", 3, 0)), "BadSize")
        self.assertEqual(do(row, ("give", 3, 61)), "BadSize")
        self.assertEqual(do(row, ("put", 5, 0)), "NoIndex")
        self.assertEqual(do(row, ("put", 4, 1001)), "BadMany")
        self.assertEqual(do(row, ("cut", 4, 0)), "NoIndex")
        self.assertEqual(do(row, ("cut", 0, 4)), "BadMany")

    def test_numbers_beyond(self):
        for word in ("plain", "hide", "show"):
            for number in (-1, -2, -4, 4, 5, FAR, -FAR):
                row, plain = pair(4, 2, [("give", 3, 5), ("hide", 0)])
                self.check(row, plain, (word, number))

    def test_questions_beyond(self):
        row, plain = pair(4, 2, [("give", 3, 5), ("hide", 0)])
        for word in ("size", "own", "hidden", "ahead"):
            for number in (-1, -4, 4, 5, 6, FAR, -FAR):
                if (word, number) != ("ahead", 4):
                    self.assertEqual(do(row, (word, number)), "NoIndex")
        self.assertEqual(row.ahead(4), row.total())
        self.assertEqual(told(row), plain.told())

    def test_hidden_keeps_its_size(self):
        row = self.check_run(3, 2, [("give", 1, 9), ("hide", 1)])
        self.assertEqual((row.size(1), row.own(1), row.hidden(1)), (0, 9, True))
        self.assertEqual(row.exceptions(), [(1, 9, True)])
        self.assertIsNone(row.show(1))
        self.assertEqual((row.size(1), row.own(1), row.hidden(1)), (9, 9, False))
        self.assertEqual(row.exceptions(), [(1, 9, False)])

    def test_hidden_of_the_common_size(self):
        row = self.check_run(3, 2, [("hide", 1)])
        self.assertEqual((row.size(1), row.own(1), row.hidden(1)), (0, 2, True))
        self.assertEqual(row.exceptions(), [(1, 2, True)])
        row.show(1)
        self.assertEqual(row.exceptions(), [])

    def test_set_while_hidden(self):
        row = self.check_run(3, 2, [("hide", 1), ("give", 1, 8), ("give", 1, 2), ("give", 1, 4), ("plain", 1)])
        self.assertEqual(row.exceptions(), [(1, 2, True)])
        self.assertEqual(row.total(), 4)

    def test_twice(self):
        self.check_run(3, 2, [("hide", 1), ("hide", 1), ("show", 1), ("show", 1), ("plain", 1), ("plain", 1)])
        self.check_run(3, 2, [("give", 2, 3), ("give", 2, 3), ("plain", 2), ("plain", 2), ("show", 2)])

    def test_all_hidden(self):
        row = self.check_run(3, 2, [("hide", 0), ("hide", 1), ("hide", 2)])
        self.assertEqual(row.total(), 0)
        self.assertEqual(do(row, ("at", 0)), "NoPoint")

    def test_every_three_deeds_of_a_small_row(self):
        words = [("give", 0, 1), ("give", 0, 2), ("give", 1, 3), ("plain", 0), ("plain", 1), ("hide", 0), ("hide", 1),
                 ("show", 0), ("show", 1), ("put", 0, 1), ("put", 1, 2), ("put", 2, 1), ("cut", 0, 1), ("cut", 1, 1)]
        for deeds in itertools.product(words, repeat=3):
            self.check_run(2, 2, deeds)

    def test_many_deeds(self):
        for seed in range(60):
            chance = random.Random(seed)
            row, plain = Sizes(6, common=1 + seed % 5), PlainRow(6, 1 + seed % 5)
            for _ in range(60):
                self.check(row, plain, self.some_deed(chance, row.many))

    def some_deed(self, chance, many):
        word = chance.choice(("give", "give", "plain", "hide", "hide", "show", "put", "cut"))
        number = chance.randint(-1, many + 1)
        if word == "give":
            return (word, number, chance.randint(0, 7))
        if word in ("put", "cut"):
            return (word, number, chance.randint(0, 4))
        return (word, number)


class PutAndCut(Compared):
    BEGUN = (("give", 0, 9), ("hide", 1), ("give", 3, 4), ("hide", 3), ("give", 5, 6))

    def test_put_everywhere(self):
        for number in range(-2, 9):
            for many in (-1, 0, 1, 2, 5, 999, 1000, 1001, FAR, -FAR):
                row, plain = pair(6, 2, self.BEGUN)
                self.check(row, plain, ("put", number, many))

    def test_cut_everywhere(self):
        for number in range(-2, 9):
            for many in (*range(-1, 9), FAR, -FAR):
                row, plain = pair(6, 2, self.BEGUN)
                self.check(row, plain, ("cut", number, many))

    def test_far_numbers(self):
        for word, number in itertools.product(("put", "cut"), (FAR, -FAR)):
            row, plain = pair(6, 2, self.BEGUN)
            self.check(row, plain, (word, number, 1))

    def test_put_by_hand(self):
        row, _ = pair(6, 2, self.BEGUN)
        self.assertIsNone(row.put(3, 2))
        self.assertEqual(row.many, 8)
        self.assertEqual(row.exceptions(), [(0, 9, False), (1, 2, True), (5, 4, True), (7, 6, False)])
        self.assertEqual((row.size(3), row.hidden(3), row.size(4)), (2, False, 2))

    def test_cut_by_hand(self):
        row, _ = pair(6, 2, self.BEGUN)
        self.assertIsNone(row.cut(1, 2))
        self.assertEqual(row.many, 4)
        self.assertEqual(row.exceptions(), [(0, 9, False), (1, 4, True), (3, 6, False)])
        row.cut(1, 2)
        self.assertEqual(row.exceptions(), [(0, 9, False), (1, 6, False)])

    def test_cut_of_one_thing(self):
        row, plain = pair(1, 2, [("give", 0, 3)])
        for many in (0, 1, 2):
            self.check(row, plain, ("cut", 0, many))
        self.check(row, plain, ("put", 0, 1))
        self.check(row, plain, ("cut", 1, 1))
        self.assertEqual(row.many, 1)

    def test_cut_of_more_than_a_thousand(self):
        row = Sizes(5000)
        row.give(4999, 7)
        row.cut(0, 4999)
        self.assertEqual((row.many, row.exceptions()), (1, [(0, 7, False)]))

    def test_what_was_cut_does_not_come_back(self):
        self.check_run(6, 2, [("give", 3, 5), ("hide", 3), ("cut", 3, 1), ("put", 3, 1)])


class Points(unittest.TestCase):
    def check_points(self, row, plain):
        points = plain.points()
        self.assertEqual([row.at(point) for point in range(len(points))], points)
        for point in (-1, -2, len(points), len(points) + 1, FAR, -FAR):
            self.assertEqual(do(row, ("at", point)), "NoPoint")

    def test_plain_rows(self):
        for many in range(1, 6):
            for common in (1, 2, 3, 60):
                self.check_points(*pair(many, common, []))

    def test_every_row_of_four(self):
        choices = [(), (("give", 1),), (("give", 4),), (("hide",),), (("give", 4), ("hide",))]
        for chosen in itertools.product(choices, repeat=4):
            deeds = [(deed[0], number, *deed[1:]) for number, some in enumerate(chosen) for deed in some]
            self.check_points(*pair(4, 2, deeds))

    def test_behind_many_deeds(self):
        for seed in range(40):
            chance = random.Random(seed)
            deeds = [("put", chance.randint(0, 5), chance.randint(1, 5))]
            for _ in range(12):
                deeds.append(("give", chance.randint(0, 9), chance.randint(1, 9)))
                deeds.append((chance.choice(("hide", "show")), chance.randint(0, 9)))
            deeds.append(("cut", chance.randint(0, 5), chance.randint(1, 3)))
            self.check_points(*pair(6, 1 + seed % 4, deeds))

    def test_hidden_ones_hold_no_point(self):
        row, _ = pair(5, 3, [("hide", 0), ("hide", 2), ("hide", 4)])
        self.assertEqual([row.at(point) for point in range(6)],
                         [(1, 0), (1, 1), (1, 2), (3, 0), (3, 1), (3, 2)])
        self.assertEqual(do(row, ("at", 6)), "NoPoint")

    def test_kind_of_the_pair(self):
        row, _ = pair(5, 3, [("give", 1, 5)])
        for point in (0, 4, 10):
            self.assertIs(type(row.at(point)), tuple)


class SixtyThings(Compared):
    def begun(self):
        """Thirty set, fifteen hidden, fifteen both; from 60 on all plain."""
        deeds = [("give", number, 5 + number) for number in range(30)]
        deeds += [("hide", number) for number in range(30, 45)]
        deeds += [("give", number, 9) for number in range(45, 60)] + [("hide", number) for number in range(45, 60)]
        row, plain = pair(64, 3, deeds)
        self.assertEqual(told(row), plain.told())
        self.assertEqual(len(row.exceptions()), 60)
        return row, plain

    def test_one_more(self):
        row, plain = self.begun()
        self.assertEqual(do(row, ("give", 60, 4)), "Full")
        self.assertEqual(do(row, ("hide", 63)), "Full")
        self.assertEqual(told(row), plain.told())

    def test_other_refusals_come_first(self):
        row, plain = self.begun()
        for deed in (("give", 64, 4), ("give", -1, 4), ("hide", 64), ("hide", -1), ("give", 60, 0), ("give", 60, 61)):
            self.assertIn(do(row, deed), ("NoIndex", "BadSize"))
            self.check(row, plain, deed)

    def test_what_is_still_let(self):
        for deed in (("give", 0, 59), ("give", 30, 7), ("give", 45, 8), ("give", 30, 3), ("hide", 0), ("hide", 30),
                     ("hide", 45), ("show", 45), ("show", 30), ("show", 0), ("show", 60), ("plain", 0), ("plain", 45),
                     ("plain", 60), ("give", 60, 3), ("give", 0, 3), ("give", 45, 3), ("put", 0, 1000), ("put", 64, 1),
                     ("cut", 0, 63), ("cut", 60, 4), ("cut", 5, 1)):
            row, plain = self.begun()
            self.assertIsNone(plain.refusal(deed))
            self.check(row, plain, deed)

    def test_room_again(self):
        for deed in (("plain", 0), ("give", 0, 3), ("show", 30), ("cut", 10, 1)):
            for more in (("give", 62, 4), ("hide", 62)):
                row, plain = self.begun()
                self.check(row, plain, deed)
                self.check(row, plain, more)
                self.assertEqual(do(row, ("hide", 61)), "Full")
                self.check(row, plain, ("give", 61, 1))

    def test_no_room_by_these(self):
        for deed in (("plain", 30), ("plain", 45), ("show", 0), ("show", 45), ("hide", 0), ("put", 0, 9),
                     ("cut", 60, 1)):
            row, plain = self.begun()
            self.check(row, plain, deed)
            self.assertEqual(do(row, ("give", row.many - 1, 4)), "Full")
            self.assertEqual(do(row, ("hide", row.many - 1)), "Full")
            self.assertEqual(told(row), plain.told())

    def test_sixty_one_by_one(self):
        for deed in (("give", 9), ("hide",)):
            row, plain = Sizes(62), PlainRow(62, 1)
            for number in range(62):
                self.check(row, plain, (deed[0], number, *deed[1:]))
            self.assertEqual([each[0] for each in row.exceptions()], list(range(60)))

    def test_sixty_hidden_are_all(self):
        row, plain = pair(60, 2, [("hide", number) for number in range(60)])
        self.assertEqual(told(row), plain.told())
        self.assertEqual(row.total(), 0)
        self.assertEqual(do(row, ("at", 0)), "NoPoint")


class Told(unittest.TestCase):
    """Point [1]: told lists are new ones, no question changes anything, truths are truths."""

    def begun(self):
        return pair(5, 2, [("give", 3, 5), ("hide", 1), ("give", 1, 4)])

    def test_lists_are_new(self):
        row, plain = self.begun()
        first, second = row.exceptions(), row.exceptions()
        self.assertIsNot(first, second)
        first.clear()
        second.append((0, 9, True))
        self.assertEqual(told(row), plain.told())

    def test_a_told_list_stays(self):
        row, _ = self.begun()
        first = row.exceptions()
        row.give(0, 9)
        row.plain(3)
        self.assertEqual(first, [(1, 4, True), (3, 5, False)])

    def test_rising_whatever_the_order(self):
        row, _ = pair(9, 2, [("give", 7, 5), ("hide", 2), ("give", 4, 4), ("hide", 0), ("put", 3, 1), ("give", 3, 1)])
        self.assertEqual(row.exceptions(), [(0, 2, True), (2, 2, True), (3, 1, False), (5, 4, False), (8, 5, False)])

    def test_kinds(self):
        row, _ = self.begun()
        self.assertIs(type(row.exceptions()), list)
        for triple in row.exceptions():
            self.assertIs(type(triple), tuple)
            self.assertEqual([type(each) for each in triple], [int, int, bool])
        for number in range(5):
            self.assertIs(row.hidden(number), number == 1)
            self.assertIs(type(row.size(number)), int)

    def test_asked_again(self):
        row, plain = self.begun()
        for _ in range(3):
            self.assertEqual(told(row), plain.told())
            self.assertEqual([row.at(point) for point in range(row.total())], plain.points())
            self.assertEqual(do(row, ("at", 99)), "NoPoint")
            self.assertEqual(do(row, ("size", 99)), "NoIndex")

    def test_deeds_tell_none(self):
        row = Sizes(5)
        for deed in (("give", 1, 4), ("give", 1, 1), ("plain", 1), ("plain", 2), ("hide", 1), ("hide", 1), ("show", 1),
                     ("show", 1), ("put", 0, 1), ("put", 6, 1000), ("cut", 0, 1), ("cut", 1, 1004)):
            self.assertIsNone(do(row, deed))


if __name__ == "__main__":
    unittest.main()
