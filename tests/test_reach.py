"""Whom a house reaches, and what a change of things and a sale leave as it was."""

import random
import unittest
from fractions import Fraction

from helper import HALF, HOUSES, NO_NAMES, THIRD, asked, chance_books, flat, made, ratio, whole_books
from wholeowners.books import Book
from wholeowners.reach import reached
from wholeowners.worths import parts, whole_group, worths

SEVEN_HOUSES = HOUSES + ("hg",)


def chain():
    # ha is bob's, and by three steps ann's; hd holds of nobody but is held by ann.
    return made(["ann", "bob", "cid"], {
        "ha": (1, 0, 0, {"hb": HALF, "bob": HALF}),
        "hb": (2, 0, 0, {"hc": 1}),
        "hc": (3, 0, 0, {}),
        "hd": (4, 0, 0, {"cid": THIRD}),
    })


def reached_by_steps(book, house):
    # As often as there are houses, the holders of all that has been found.
    found = set()
    for _ in range(len(book.houses()) + 1):
        houses = [house] + [name for name in found if name in book.houses()]
        found |= {holder for name in houses for holder, share in book.shares(name)}
    return sorted(found)


def held(book):
    # Worths and parts of all holders.
    return dict(worths(book) + parts(book))


class Reached(unittest.TestCase):

    def test_a_house_held_by_a_person_alone(self):
        book = made(["ann", "bob"], {"ha": (1, 2, 3, {}), "hb": (0, 0, 0, {"bob": 1})})
        self.assertEqual(reached(book, "ha"), ["ann"])
        self.assertEqual(reached(book, "hb"), ["bob"])
        self.assertIs(type(reached(book, "ha")), list)

    def test_a_chain(self):
        book = chain()
        self.assertEqual(reached(book, "ha"), ["ann", "bob", "hb", "hc"])
        self.assertEqual(reached(book, "hb"), ["ann", "hc"])
        self.assertEqual(reached(book, "hc"), ["ann"])
        self.assertEqual(reached(book, "hd"), ["ann", "cid"])

    def test_a_ring(self):
        book = made(["ann"], {
            "ha": (0, 0, 0, {"hb": HALF}), "hb": (0, 0, 0, {"hc": HALF}), "hc": (0, 0, 0, {"ha": HALF}),
            "hd": (0, 0, 0, {"ha": HALF}), "he": (0, 0, 0, {}),
        })
        for house in ("ha", "hb", "hc", "hd"):
            self.assertEqual(reached(book, house), ["ann", "ha", "hb", "hc"])
        self.assertEqual(reached(book, "he"), ["ann"])

    def test_a_house_that_holds_a_part_of_itself(self):
        book = made(["ann"], {"ha": (0, 0, 0, {"ha": HALF}), "hb": (0, 0, 0, {"ha": 1})})
        self.assertEqual(reached(book, "ha"), ["ann", "ha"])
        self.assertEqual(reached(book, "hb"), ["ann", "ha"])

    def test_a_sliver_is_enough_and_nothing_is_not(self):
        book = chain()
        book.sale("hd", "ann", "ha", (1, 10 ** 29))
        self.assertEqual(reached(book, "hd"), ["ann", "bob", "cid", "ha", "hb", "hc"])
        book.sale("hd", "ha", "cid", (1, 10 ** 29))
        self.assertEqual(reached(book, "hd"), ["ann", "cid"])

    def test_holders_by_names(self):
        rows = {"yard": (0, 0, 0, {"b": THIRD, "abe": THIRD}), "b": (0, 0, 0, {"a": HALF}), "a": (0, 0, 0, {"zoe": 1})}
        book = made(["bob", "zoe", "abe", "cid"], rows)
        self.assertEqual(reached(book, "yard"), ["a", "abe", "b", "bob", "zoe"])
        self.assertEqual(reached(book, "b"), ["a", "bob", "zoe"])

    def test_also_where_a_group_owns_itself_whole(self):
        for book, group in whole_books():
            for house in book.houses():
                self.assertEqual(reached(book, house), reached_by_steps(book, house))
        book = made(["ann"], {"ha": (0, 0, 0, {"ha": 1})})
        self.assertEqual(reached(book, "ha"), ["ha"])

    def test_no_house(self):
        for book in (Book(), made(["ann"], {}), chain()):
            for name in NO_NAMES + ("ann", "bob", "he"):
                self.assertEqual(asked(reached, book, name), ("NoHouse", None))

    def test_chance_books(self):
        for book in chance_books(random.Random(40), 100, most_houses=6, bottom=2):
            for house in book.houses():
                self.assertEqual(reached(book, house), reached_by_steps(book, house))

    def test_seven_houses(self):
        rows = {one: (0, 0, 0, {other: 1}) for one, other in zip(SEVEN_HOUSES, SEVEN_HOUSES[1:])}
        book = made(["ann", "bob", "cid", "dan"], {**rows, "hg": (0, 0, 0, {"dan": 1})})
        for place, house in enumerate(SEVEN_HOUSES):
            self.assertEqual(reached(book, house), ["dan", *SEVEN_HOUSES[place + 1:]])
        book.sale("hg", "dan", "hc", (1, 2))
        for place, house in enumerate(SEVEN_HOUSES):
            self.assertEqual(reached(book, house), ["dan", *SEVEN_HOUSES[min(place + 1, 2):]])

    def test_arguments_have_their_names(self):
        self.assertEqual(reached(book=chain(), house="hc"), ["ann"])


class Changes(unittest.TestCase):

    def books(self, seed):
        # So few shares that much is not reached.
        return [chain()] + chance_books(random.Random(seed), 60, whole=False, bottom=1)

    def unlike(self, before, after):
        return {holder for holder in before if before[holder] != after[holder]}

    def test_of_things(self):
        chance = random.Random(41)
        spared = 0
        for book in self.books(42):
            for house in book.houses():
                before = held(book)
                free = {house, *reached(book, house)}
                book.things(house, book.of(house)[0] + chance.choice((-7, 1, 10 ** 29)))
                # None beyond these; and as all ways through to them are above 0, each of these.
                self.assertEqual(self.unlike(before, held(book)), free)
                spared += len(before) - len(free)
        self.assertGreater(spared, 100)

    def test_of_a_sale(self):
        chance = random.Random(43)
        spared = 0
        changed = 0
        for book in self.books(44):
            for house in book.houses():
                one, share = chance.choice(book.shares(house))
                other = chance.choice(book.persons() + book.houses())
                free = {one, other, *flat(reached(book, name) for name in (one, other) if name in book.houses())}
                before = held(book)
                sold = book.twin()
                sold.sale(house, one, other, ratio(Fraction(*share) / chance.choice((1, 2))))
                if whole_group(sold) == []:
                    self.assertLessEqual(self.unlike(before, held(sold)), free)
                    spared += len(before) - len(free)
                    changed += self.unlike(before, held(sold)) != set()
        self.assertGreater(min(spared, changed), 50)

    def test_of_marks_and_losses_nothing(self):
        for book in self.books(45):
            before = held(book)
            for house in book.houses():
                book.mark(house, 10 ** 29)
                book.loss(house, 10 ** 29)
            self.assertEqual(held(book), before)


if __name__ == "__main__":
    unittest.main()
