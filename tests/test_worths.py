"""Worths, parts and ways through, and the groups that own themselves whole."""

import random
import unittest
from fractions import Fraction

from helper import (
    HOUSES, NO_NAMES, PERSONS, chance_books, fraction, greatest_group, is_fraction, is_row_of_fractions, made, ratio,
    share_of, things_of, whole_books, worths_by,
)
from wholeowners.books import Book
from wholeowners.errors import NoHolder, NoHouse, OwnError, Whole
from wholeowners.falls import agreeing, agrees, fewest, spared
from wholeowners.worths import parts, through, whole_group, worths

THIRD = Fraction(1, 3)
HALF = Fraction(1, 2)
LONG = 10 ** 29 + 319


def ring_of_two():
    return made(["ann"], {"ha": (10, 0, 0, {"hb": THIRD}), "hb": (20, 0, 0, {"ha": HALF})})


def ring_of_three():
    return made(["ann", "bob"], {
        "ha": (7, 0, 0, {"hc": HALF, "bob": THIRD}),
        "hb": (0, 0, 0, {"ha": HALF}),
        "hc": (0, 0, 0, {"hb": HALF}),
    })


class WholeGroup(unittest.TestCase):

    def test_none(self):
        book = Book()
        self.assertEqual(whole_group(book), [])
        book.person("ann")
        self.assertEqual(whole_group(book), [])
        book.house("ha", "ann", 1, 2, 3)
        self.assertEqual(whole_group(book), [])
        self.assertEqual(whole_group(ring_of_two()), [])
        self.assertEqual(whole_group(ring_of_three()), [])

    def test_a_millionth_outside_is_enough(self):
        most = Fraction(999999, 1000000)
        book = made(["ann"], {"ha": (0, 0, 0, {"hb": 1}), "hb": (0, 0, 0, {"ha": most})})
        self.assertEqual(whole_group(book), [])
        self.assertEqual(whole_group(made(["ann"], {"ha": (0, 0, 0, {"ha": most})})), [])

    def test_a_chain_that_ends_at_a_person(self):
        rows = {one: (0, 0, 0, {other: 1}) for one, other in zip(HOUSES, HOUSES[1:])}
        self.assertEqual(whole_group(made(["ann"], {**rows, "hf": (0, 0, 0, {})})), [])
        self.assertEqual(whole_group(made(["ann"], {**rows, "hf": (0, 0, 0, {"ha": 1})})), list(HOUSES))

    def test_the_greatest(self):
        for book, group in whole_books():
            self.assertEqual(whole_group(book), group)
            self.assertIs(type(whole_group(book)), list)

    def test_against_all_groups(self):
        whole = 0
        for book in chance_books(random.Random(6), 150):
            self.assertEqual(whole_group(book), greatest_group(book))
            whole += whole_group(book) != []
        self.assertGreater(whole, 10)
        for book in chance_books(random.Random(7), 40, whole=True):
            self.assertEqual(whole_group(book), greatest_group(book))

    def test_a_sale_opens_and_shuts_it(self):
        book = ring_of_two()
        book.sale("ha", "ann", "hb", (2, 3))
        self.assertEqual(whole_group(book), [])
        book.sale("hb", "ann", "hb", (1, 2))
        self.assertEqual(whole_group(book), ["ha", "hb"])
        book.sale("hb", "ha", "ann", (1, 10 ** 29))
        self.assertEqual(whole_group(book), [])


class RefusedWithWhole(unittest.TestCase):

    def check(self, group, call, *handed):
        with self.assertRaises(OwnError) as caught:
            call(*handed)
        self.assertIs(type(caught.exception), Whole)
        self.assertEqual(caught.exception.group, group)
        self.assertIs(type(caught.exception.group), list)
        return caught.exception.group

    def test_all_but_the_group(self):
        for book, group in whole_books():
            for call in (worths, parts, fewest, spared, agreeing):
                self.check(group, call, book)
            for lot in ([], ["ha"], book.houses()):
                self.check(group, agrees, book, lot)
            for holder in book.persons() + book.houses():
                for house in book.houses():
                    self.check(group, through, book, holder, house)

    def test_ahead_of_every_other_refusal(self):
        for book, group in whole_books():
            for name in NO_NAMES + ("ann",):
                self.check(group, through, book, name, name)
                self.check(group, through, book, "ha", name)
                self.check(group, through, book, name, "ha")

    def test_the_group_is_the_askers_own(self):
        for book, group in whole_books():
            for call in (worths, parts, fewest, spared, agreeing):
                self.check(group, call, book).append("more")
                self.check(group, call, book).clear()
                self.check(group, call, book)
            self.assertEqual(whole_group(book), group)


class Worths(unittest.TestCase):

    def check_agreement(self, book):
        self.assertTrue(is_row_of_fractions(worths(book), book.houses()))
        worth = {house: fraction(number) for house, number in worths(book)}
        for house in worth:
            held = sum(share_of(book, house, other) * worth[other] for other in worth)
            self.assertEqual(worth[house], book.of(house)[0] + held)
        self.check_parts(book, worth)

    def check_parts(self, book, worth):
        self.assertTrue(is_row_of_fractions(parts(book), book.persons()))
        for person, part in parts(book):
            self.assertEqual(fraction(part), sum(share_of(book, person, house) * worth[house] for house in worth))
        self.assertEqual(sum(fraction(part) for person, part in parts(book)), sum(things_of(book).values()))

    def test_without_houses(self):
        self.assertEqual(worths(Book()), [])
        self.assertEqual(parts(Book()), [])
        book = made(["bob", "ann"], {})
        self.assertEqual(worths(book), [])
        self.assertEqual(parts(book), [("ann", (0, 1)), ("bob", (0, 1))])

    def test_one_house_held_by_a_person(self):
        book = made(["ann", "bob"], {"ha": (100, 1, 2, {})})
        self.assertEqual(worths(book), [("ha", (100, 1))])
        self.assertEqual(parts(book), [("ann", (100, 1)), ("bob", (0, 1))])

    def test_a_house_that_holds_a_part_of_itself(self):
        book = made(["ann"], {"ha": (10, 0, 0, {"ha": HALF})})
        self.assertEqual(worths(book), [("ha", (20, 1))])
        self.assertEqual(parts(book), [("ann", (10, 1))])
        book = made(["ann"], {"ha": (1, 0, 0, {"ha": Fraction(4, 7)})})
        self.assertEqual(worths(book), [("ha", (7, 3))])
        self.assertEqual(parts(book), [("ann", (1, 1))])

    def test_a_chain(self):
        book = made(["ann", "bob"], {"hb": (6, 0, 0, {"ha": HALF, "bob": THIRD}), "ha": (1, 0, 0, {"bob": HALF})})
        self.assertEqual(worths(book), [("ha", (4, 1)), ("hb", (6, 1))])
        self.assertEqual(parts(book), [("ann", (3, 1)), ("bob", (4, 1))])

    def test_a_ring_of_two(self):
        self.assertEqual(worths(ring_of_two()), [("ha", (24, 1)), ("hb", (28, 1))])
        self.assertEqual(parts(ring_of_two()), [("ann", (30, 1))])

    def test_a_ring_of_three(self):
        self.assertEqual(worths(ring_of_three()), [("ha", (8, 1)), ("hb", (2, 1)), ("hc", (4, 1))])
        self.assertEqual(parts(ring_of_three()), [("ann", (13, 3)), ("bob", (8, 3))])

    def test_things_below_nothing_are_handed_on(self):
        book = ring_of_two()
        book.things("ha", -10)
        self.assertEqual(worths(book), [("ha", (0, 1)), ("hb", (20, 1))])
        self.assertEqual(parts(book), [("ann", (10, 1))])
        book.things("hb", -20)
        self.assertEqual(worths(book), [("ha", (-24, 1)), ("hb", (-28, 1))])
        self.assertEqual(parts(book), [("ann", (-30, 1))])
        book.things("hb", 0)
        self.assertEqual(worths(book), [("ha", (-12, 1)), ("hb", (-4, 1))])
        book.things("ha", -1)
        self.assertEqual(worths(book), [("ha", (-6, 5)), ("hb", (-2, 5))])

    def test_bottoms_that_are_unlike(self):
        for tops in ((5, 9, 16), (5, 16, 9), (9, 5, 16), (9, 16, 5), (16, 5, 9), (16, 9, 5)):
            shares = {holder: Fraction(top, 30) for holder, top in zip(("ann", "bob", "hb"), tops)}
            book = made(["ann", "bob"], {"ha": (30, 0, 0, shares), "hb": (0, 0, 0, {"bob": HALF})})
            self.assertEqual(worths(book), [("ha", (30, 1)), ("hb", (tops[2], 1))])
            self.assertEqual(parts(book), [("ann", ratio(tops[0] + tops[2] * HALF)),
                                           ("bob", ratio(tops[1] + tops[2] * HALF))])

    def test_marks_and_losses_count_for_nothing(self):
        book = ring_of_two()
        book.mark("ha", 10 ** 29)
        book.loss("hb", 10 ** 29)
        self.assertEqual(worths(book), worths(ring_of_two()))
        self.assertEqual(parts(book), parts(ring_of_two()))

    def test_a_person_without_shares_has_part_nothing(self):
        book = ring_of_three()
        book.person("cid")
        book.person("abe")
        told = dict(parts(book))
        self.assertEqual((told["abe"], told["cid"]), ((0, 1), (0, 1)))
        self.assertEqual(list(told), ["abe", "ann", "bob", "cid"])

    def test_great_bottoms_and_long_things(self):
        rows = {
            "ha": (LONG, 0, 0, {"hb": Fraction(333333, 1000000), "hc": Fraction(1, 999983)}),
            "hb": (-LONG - 2, 0, 0, {"ha": Fraction(999999, 1000000)}),
            "hc": (10 ** 20 + 39, 0, 0, {"hc": Fraction(1, 1000003), "hb": Fraction(123456, 1000033)}),
            "hd": (1, 0, 0, {"hd": Fraction(LONG - 1, LONG), "bob": Fraction(1, 2 * LONG)}),
        }
        self.check_agreement(made(["ann", "bob"], rows))
        book = made(["ann"], {"ha": (1, 0, 0, {"ha": Fraction(LONG - 1, LONG)})})
        self.assertEqual(worths(book), [("ha", (LONG, 1))])
        chance = random.Random(8)
        for book in chance_books(chance, 40, whole=False, most_houses=6, bottom=10 ** 6, reach=10 ** 29):
            self.check_agreement(book)
        for book in chance_books(chance, 10, whole=False, most_houses=6, bottom=10 ** 28, reach=10 ** 29):
            self.check_agreement(book)

    def test_chance_books_agree(self):
        for book in chance_books(random.Random(9), 150, whole=False, most_houses=6):
            self.check_agreement(book)
            self.assertEqual(worths(book), [(house, ratio(worth))
                                            for house, worth in worths_by(book, things_of(book)).items()])

    def test_what_was_told_may_be_handed_in_again(self):
        book = ring_of_three()
        for _ in range(4):
            way = through(book, "hb", "ha")
            book.sale("hb", "ha", "hc", ratio(fraction(way) / 9))
            book.things("ha", worths(book)[0][1][0])
            self.check_agreement(book)

    def test_after_hundreds_of_sales(self):
        book = ring_of_three()
        for count in range(200):
            book.sale("ha", "ann", "hb", (1, 10 ** 29 + 2 * count + 1))
        # Numbers that Python does not write out.
        self.assertGreater(worths(book)[1][1][1], 10 ** 4500)
        self.check_agreement(book)


class Through(unittest.TestCase):

    def test_of_a_ring(self):
        book = ring_of_two()
        self.assertEqual(through(book, "ha", "ha"), (6, 5))
        self.assertEqual(through(book, "ha", "hb"), (3, 5))
        self.assertEqual(through(book, "hb", "ha"), (2, 5))
        self.assertEqual(through(book, "hb", "hb"), (6, 5))
        self.assertEqual(through(book, "ann", "ha"), (1, 1))
        self.assertEqual(through(book, "ann", "hb"), (1, 1))
        book = ring_of_three()
        self.assertEqual(through(book, "bob", "ha"), (8, 21))
        self.assertEqual(through(book, "ann", "ha"), (13, 21))

    def test_of_a_house_to_itself(self):
        book = made(["ann"], {"ha": (5, 0, 0, {}), "hb": (0, 0, 0, {"hb": Fraction(3, 4), "ha": Fraction(1, 8)})})
        self.assertEqual(through(book, "ha", "ha"), (1, 1))
        self.assertEqual(through(book, "hb", "hb"), (4, 1))
        self.assertEqual(through(book, "ha", "hb"), (1, 2))

    def test_of_a_holder_that_nothing_comes_to(self):
        book = made(["ann", "bob"], {"ha": (5, 0, 0, {}), "hb": (7, 0, 0, {"ha": HALF})})
        for holder, house in (("bob", "ha"), ("bob", "hb"), ("hb", "ha")):
            self.assertEqual(through(book, holder, house), (0, 1))

    def test_things_count_for_nothing(self):
        book = ring_of_three()
        asked = [(holder, house) for holder in ("ann", "bob", "ha", "hb", "hc") for house in book.houses()]
        before = [through(book, holder, house) for holder, house in asked]
        for house in book.houses():
            book.things(house, -10 ** 29)
            book.mark(house, 10 ** 29)
        self.assertEqual([through(book, holder, house) for holder, house in asked], before)

    def test_arguments_have_their_names(self):
        book = ring_of_two()
        self.assertEqual(through(book=book, holder="ha", house="hb"), (3, 5))
        self.assertEqual(worths(book=book), worths(book))
        self.assertEqual(parts(book=book), parts(book))
        self.assertEqual(whole_group(book=book), [])

    def test_from_one_house_to_all_persons_they_come_to_one(self):
        for book in chance_books(random.Random(10), 60, whole=False, most_houses=6):
            for house in book.houses():
                ways = [through(book, person, house) for person in book.persons()]
                self.assertTrue(all(is_fraction(way) for way in ways))
                self.assertEqual(sum(fraction(way) for way in ways), 1)
                self.assertGreaterEqual(fraction(through(book, house, house)), 1)

    def test_one_thing_more(self):
        chance = random.Random(11)
        for book in chance_books(chance, 50, whole=False, most_houses=6, bottom=50):
            before = dict(worths(book) + parts(book))
            for house in book.houses():
                more = book.twin()
                more.things(house, book.of(house)[0] + 1)
                after = dict(worths(more) + parts(more))
                for holder in before:
                    way = through(book, holder, house)
                    self.assertTrue(is_fraction(way))
                    self.assertEqual(fraction(after[holder]) - fraction(before[holder]), fraction(way))

    def test_no_holder_then_no_house(self):
        book = ring_of_three()
        for name in NO_NAMES:
            for house in NO_NAMES + ("ann", "ha"):
                self.refused(NoHolder, book, name, house)
            for holder in ("ann", "bob", "ha", "hc"):
                self.refused(NoHouse, book, holder, name)

    def test_a_persons_name_is_no_house(self):
        for holder in ("ann", "bob", "ha"):
            for house in ("ann", "bob"):
                self.refused(NoHouse, ring_of_three(), holder, house)
        self.refused(NoHouse, made(PERSONS, {}), "ann", "ann")
        self.refused(NoHolder, Book(), "ann", "ann")

    def refused(self, kind, book, holder, house):
        with self.assertRaises(OwnError) as caught:
            through(book, holder, house)
        self.assertIs(type(caught.exception), kind)


if __name__ == "__main__":
    unittest.main()
