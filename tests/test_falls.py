"""The fewest and the most fallen houses, and all lots that agree."""

import random
import unittest
from fractions import Fraction
from itertools import permutations

from helper import HOUSES, below_marks, chance_books, flat, lots_of, made, worths_by
from wholeowners.books import Book
from wholeowners.falls import agreeing, agrees, fewest, spared

HALF = Fraction(1, 2)


def alone(*rows):
    # Houses that hold nothing of one another.
    return made(["ann"], {house: (*row, {}) for house, row in zip(HOUSES, rows)})


def pair(mark):
    # Each is worth 20 where none has fallen, 12 where both have; where one has, it is worth 44/3, the other 52/3.
    return made(["ann"], {"ha": (10, mark, 4, {"hb": HALF}), "hb": (10, mark, 4, {"ha": HALF})})


def row_of_four(mark, loss):
    # Each holds all of the one before it, so that what the first loses is lost to all.
    rows = {"ha": (9, 10, loss, {"hb": 1}), "hd": (0, mark, loss, {})}
    rows.update({"hb": (0, mark, loss, {"hc": 1}), "hc": (0, mark, loss, {"hd": 1})})
    return made(["ann"], rows)


class Fewest(unittest.TestCase):

    def test_without_houses(self):
        for book in (Book(), made(["ann"], {})):
            self.assertEqual((fewest(book), spared(book), agreeing(book)), ([], [], [[]]))
            self.assertIs(agrees(book, []), True)

    def test_none_fallen(self):
        book = alone((10, 10, 5), (3, -2, 0))
        self.assertEqual(fewest(book), [])
        self.assertEqual(fewest(pair(20)), [])
        self.assertEqual(fewest(pair(13)), [])

    def test_all_fallen_at_once(self):
        book = alone((9, 10, 5), (-3, -2, 0), (0, 1, 7))
        self.assertEqual(fewest(book), [["ha", "hb", "hc"]])
        self.assertEqual(fewest(pair(21)), [["ha", "hb"]])

    def test_several_rounds(self):
        # ha falls of itself; each further one is drawn along by the one before it.
        book = row_of_four(6, 4)
        self.assertEqual(fewest(book), [["ha"], ["hb", "hc", "hd"]])
        book.mark("hc", 5)
        book.mark("hd", 1)
        self.assertEqual(fewest(book), [["ha"], ["hb"], ["hc"], ["hd"]])
        book.mark("hd", -2)
        self.assertEqual(fewest(book), [["ha"], ["hb"], ["hc"], ["hd"]])
        book.mark("hd", -3)
        self.assertEqual(fewest(book), [["ha"], ["hb"], ["hc"]])
        book.mark("hc", 1)
        self.assertEqual(fewest(book), [["ha"], ["hb"]])

    def test_worth_of_just_the_mark_stands(self):
        book = row_of_four(5, 4)
        self.assertEqual(fewest(book), [["ha"]])
        book.loss("ha", 5)
        self.assertEqual(fewest(book), [["ha"], ["hb", "hc", "hd"]])

    def test_a_loss_of_nothing(self):
        book = row_of_four(9, 0)
        self.assertEqual(fewest(book), [["ha"]])
        self.assertEqual(spared(book), [["hb", "hc", "hd"]])
        self.assertEqual(agreeing(book), [["ha"]])

    def test_around_a_ring(self):
        # hb falls by itself, and as both hold of one another ha falls by what comes back around.
        book = made(["ann"], {"ha": (10, 20, 4, {"hb": HALF}), "hb": (10, 21, 4, {"ha": HALF})})
        self.assertEqual(fewest(book), [["hb"], ["ha"]])
        book.mark("ha", 17)
        self.assertEqual(fewest(book), [["hb"]])
        self.assertEqual(agreeing(book), [["hb"], ["ha", "hb"]])

    def test_fractions_of_a_thing(self):
        book = pair(20)
        book.mark("hb", 21)
        book.mark("ha", 17)
        self.assertIs(agrees(book, ["hb"]), True)
        book.mark("ha", 18)
        self.assertIs(agrees(book, ["hb"]), False)


class Spared(unittest.TestCase):

    def test_none_spared(self):
        self.assertEqual(spared(pair(13)), [])
        self.assertEqual(spared(alone((9, 10, 5), (10, 10, 1))), [])

    def test_all_spared_at_once(self):
        self.assertEqual(spared(pair(12)), [["ha", "hb"]])
        self.assertEqual(spared(alone((9, 5, 4), (-1, -1, 0))), [["ha", "hb"]])

    def test_several_rounds(self):
        # Where all have fallen: ha 2, hb 0, hc -4, hd -9.
        rows = {"ha": (4, 2, 2, {"hb": 1}), "hb": (0, 2, 2, {"hc": 1})}
        book = made(["ann"], {**rows, "hc": (0, 0, 4, {"hd": 1}), "hd": (0, -3, 5, {})})
        self.assertEqual(spared(book), [["ha"], ["hb"], ["hc"], ["hd"]])
        book.mark("hd", 5)
        self.assertEqual(spared(book), [["ha"], ["hb"], ["hc"]])
        book.mark("ha", 3)
        self.assertEqual(spared(book), [])

    def test_worth_of_just_the_mark_is_spared(self):
        book = alone((10, 6, 4), (10, 7, 4))
        self.assertEqual(spared(book), [["ha"]])


class Agreeing(unittest.TestCase):

    def test_two_lots_and_none_between(self):
        book = pair(13)
        self.assertEqual(agreeing(book), [[], ["ha", "hb"]])
        self.assertIs(agrees(book, []), True)
        self.assertIs(agrees(book, ["ha"]), False)
        self.assertIs(agrees(book, ["hb"]), False)
        self.assertIs(agrees(book, ["ha", "hb"]), True)
        self.assertIs(agrees(book, ["hb", "ha"]), True)

    def test_the_fewer_first_of_like_many_in_order(self):
        book = alone((10, 8, 5), (10, 8, 5), (10, 8, 5))
        self.assertEqual(agreeing(book), [
            [], ["ha"], ["hb"], ["hc"], ["ha", "hb"], ["ha", "hc"], ["hb", "hc"], ["ha", "hb", "hc"],
        ])

    def test_in_the_order_of_texts(self):
        rows = {house: (10, 8, 5, {}) for house in ("b", "ab", "a")}
        self.assertEqual(agreeing(made(["z"], rows)), [
            [], ["a"], ["ab"], ["b"], ["a", "ab"], ["a", "b"], ["ab", "b"], ["a", "ab", "b"],
        ])

    def test_only_one(self):
        self.assertEqual(agreeing(alone((10, 5, 5), (1, 2, 0))), [["hb"]])
        self.assertEqual(agreeing(pair(12)), [[]])
        self.assertEqual(agreeing(pair(21)), [["ha", "hb"]])

    def test_agrees_in_any_order(self):
        book = alone((10, 8, 5), (10, 5, 5), (10, 8, 5), (10, 12, 5), (10, 8, 5))
        for lot in permutations(["ha", "hc", "hd"]):
            self.assertIs(agrees(book, list(lot)), True)
        for lot in permutations(["ha", "hb", "hd"]):
            self.assertIs(agrees(book, list(lot)), False)
        for lot in permutations(["ha", "hc"]):
            self.assertIs(agrees(book, list(lot)), False)

    def test_long_numbers(self):
        long = 10 ** 29 + 319
        book = alone((long, long, 1), (long, long + 1, long), (-long, -long, 0))
        self.assertEqual(fewest(book), [["hb"]])
        self.assertEqual(spared(book), [["hc"]])
        self.assertEqual(agreeing(book), [["hb"], ["ha", "hb"]])
        # A share of so little decides, where the mark is just what the worth is without it.
        book = made(["ann", "bob"], {"ha": (1, 0, 0, {"hb": Fraction(1, long)}), "hb": (5, 5, 0, {})})
        self.assertEqual(fewest(book), [])
        book.things("ha", -1)
        self.assertEqual(fewest(book), [["ha", "hb"]])

    def test_arguments_have_their_names(self):
        book = pair(13)
        self.assertIs(agrees(book=book, houses=["ha"]), False)
        self.assertEqual(fewest(book=book), [])
        self.assertEqual(spared(book=book), [])
        self.assertEqual(agreeing(book=book), [[], ["ha", "hb"]])


class ReckonedAnew(unittest.TestCase):

    def check_rounds(self, lists, drawn):
        self.assertEqual([type(found) for found in [lists] + lists], [list] * (len(lists) + 1))
        for place in range(len(lists) + 1):
            earlier = flat(lists[:place])
            further = [house for house in drawn(earlier) if house not in earlier]
            self.assertEqual([further] if further else [], lists[place:place + 1])
        return flat(lists)

    def check_fewest(self, book):
        return self.check_rounds(fewest(book), lambda earlier: below_marks(book, earlier))

    def check_spared(self, book):
        def standing(earlier):
            below = below_marks(book, [house for house in book.houses() if house not in earlier])
            return [house for house in book.houses() if house not in below]

        return self.check_rounds(spared(book), standing)

    def check_agreeing(self, book, least, safe):
        most = [house for house in book.houses() if house not in safe]
        lots = [lot for lot in lots_of(book.houses()) if below_marks(book, lot) == lot]
        self.assertEqual(agreeing(book), lots)
        self.assertIn(sorted(least), lots)
        self.assertIn(most, lots)
        self.assertIs(agrees(book, least), True)
        self.assertIs(agrees(book, most), True)
        for lot in lots:
            self.assertLessEqual(set(least), set(lot))
            self.assertLessEqual(set(lot), set(most))
        for lot in lots_of(book.houses()):
            self.assertIs(agrees(book, lot[::-1]), lot in lots)
        return len(lots)

    def test_chance_books(self):
        seen = {"rounds": 0, "back": 0, "lots": 0}
        for book in chance_books(random.Random(17), 150, whole=False, reach=20):
            least = self.check_fewest(book)
            safe = self.check_spared(book)
            seen["lots"] = max(seen["lots"], self.check_agreeing(book, least, safe))
            seen["rounds"] = max(seen["rounds"], len(fewest(book)))
            seen["back"] = max(seen["back"], len(spared(book)))
        self.assertGreaterEqual(min(seen["rounds"], seen["back"] + 1, seen["lots"]), 3, seen)

    def test_marks_of_just_the_worths(self):
        # Marks are put to whole worths of some lot, so that just the mark comes up often.
        chance = random.Random(18)
        for book in chance_books(chance, 60, whole=False, bottom=2, reach=8):
            for house in book.houses():
                lot = chance.choice(lots_of(book.houses()))
                things = {name: book.of(name)[0] - (book.of(name)[2] if name in lot else 0) for name in book.houses()}
                book.mark(house, int(worths_by(book, things)[house]))
            self.check_agreeing(book, self.check_fewest(book), self.check_spared(book))

    def test_six_houses(self):
        for book in chance_books(random.Random(19), 30, whole=False, most_houses=6, bottom=10 ** 6, reach=10 ** 29):
            self.check_fewest(book)
            self.check_spared(book)


if __name__ == "__main__":
    unittest.main()
