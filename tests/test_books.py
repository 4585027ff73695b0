"""The book: its deeds, what it tells, and in which order it refuses."""

import random
import unittest
from fractions import Fraction
from math import gcd

from helper import told
from wholeowners.books import Book
from wholeowners.errors import (
    NoHolder, NoHouse, NoLoss, NoName, NoShare, OwnError, TooMany, Twice,
)

NO_NAMES = (
    "", "abcdefghi", "Ann", "anN", "A", "ann1", "1", "0", "an n", " ann", "ann ", " ", "ann\n", "\nann", "\n",
    "a\nb", "a-b", "a_b", "`", "{", "a.b", "~", "a" * 10000, " " * 10000, "abcdefgh\n", "abcdefgh ",
)
NAMES = ("a", "z", "az", "abcdefgh", "zzzzzzzz", "stuvwxyz")
SIX_PERSONS = ("ann", "bob", "cid", "dan", "eve", "fay")
EIGHT_HOUSES = ("ha", "hb", "hc", "hd", "he", "hf", "hg", "hh")
MOST = 10 ** 30 - 1


def small_book():
    book = Book()
    book.person("bob")
    book.person("ann")
    book.house("mill", "ann", 100, 50, 10)
    book.house("farm", "mill", -7, -3, 0)
    return book


def full_book():
    book = Book()
    for name in SIX_PERSONS:
        book.person(name)
    for name in EIGHT_HOUSES:
        book.house(name, "ann", 1, 2, 3)
    return book


class BookTest(unittest.TestCase):

    def refused(self, kind, book, deed, *handed):
        # A refusal must be of just this class and leave all as it was.
        before = told(book)
        with self.assertRaises(OwnError) as caught:
            getattr(book, deed)(*handed)
        self.assertIs(type(caught.exception), kind, (deed, handed))
        self.assertIsInstance(str(caught.exception), str)
        self.assertEqual(told(book), before, (deed, handed))

    def check_shares(self, book):
        holders = book.persons() + book.houses()
        for house in book.houses():
            rows = book.shares(house)
            self.assertIs(type(rows), list)
            names = [row[0] for row in rows]
            self.assertEqual(names, sorted(set(names)))
            whole = Fraction(0)
            for row in rows:
                self.assertIs(type(row), tuple)
                self.assertEqual(len(row), 2)
                self.check_share(row[1])
                self.assertIn(row[0], holders)
                whole += Fraction(row[1][0], row[1][1])
            self.assertEqual(whole, 1)

    def check_share(self, share):
        self.assertIs(type(share), tuple)
        self.assertEqual([type(number) for number in share], [int, int])
        self.assertGreater(share[0], 0)
        self.assertGreater(share[1], 0)
        self.assertEqual(gcd(share[0], share[1]), 1)


class Telling(BookTest):

    def test_an_empty_book(self):
        self.assertEqual(told(Book()), ([], [], []))

    def test_persons_and_houses_are_lists_by_names(self):
        book = Book()
        for name in ("bob", "b", "ann", "ab", "z", "aa"):
            book.person(name)
        self.assertEqual(book.persons(), ["aa", "ab", "ann", "b", "bob", "z"])
        for name in ("mill", "m", "farm", "yard", "inn", "mi"):
            book.house(name, "bob", 0, 0, 0)
        self.assertEqual(book.houses(), ["farm", "inn", "m", "mi", "mill", "yard"])
        self.assertIs(type(book.persons()), list)
        self.assertIs(type(book.houses()), list)
        self.check_shares(book)

    def test_every_deed_tells_none(self):
        book = Book()
        self.assertIsNone(book.person("ann"))
        self.assertIsNone(book.house("mill", "ann", 1, 2, 3))
        self.assertIsNone(book.sale("mill", "ann", "mill", (1, 2)))
        self.assertIsNone(book.sale("mill", "ann", "ann", (1, 2)))
        self.assertIsNone(book.things("mill", 4))
        self.assertIsNone(book.mark("mill", 5))
        self.assertIsNone(book.loss("mill", 6))

    def test_a_house_is_all_its_owners(self):
        book = small_book()
        self.assertEqual(book.persons(), ["ann", "bob"])
        self.assertEqual(book.houses(), ["farm", "mill"])
        self.assertEqual(book.shares("mill"), [("ann", (1, 1))])
        self.assertEqual(book.shares("farm"), [("mill", (1, 1))])
        self.assertEqual(book.of("mill"), (100, 50, 10))
        self.assertEqual(book.of("farm"), (-7, -3, 0))
        self.assertIs(type(book.of("mill")), tuple)

    def test_things_mark_and_loss_change_that_alone_of_that_house_alone(self):
        book = small_book()
        book.things("mill", -5)
        self.assertEqual(book.of("mill"), (-5, 50, 10))
        book.mark("mill", -6)
        self.assertEqual(book.of("mill"), (-5, -6, 10))
        book.loss("mill", 7)
        self.assertEqual(book.of("mill"), (-5, -6, 7))
        book.loss("mill", 0)
        book.things("mill", 0)
        book.mark("mill", 0)
        self.assertEqual(book.of("mill"), (0, 0, 0))
        self.assertEqual(book.of("farm"), (-7, -3, 0))
        self.assertEqual(book.shares("mill"), [("ann", (1, 1))])

    def test_arguments_have_their_names(self):
        book = Book()
        book.person(name="ann")
        book.house(name="mill", owner="ann", things=1, mark=2, loss=3)
        book.sale(house="mill", one="ann", other="mill", share=(1, 3))
        self.assertEqual(book.of(house="mill"), (1, 2, 3))
        book.things(house="mill", number=4)
        book.mark(house="mill", number=5)
        book.loss(house="mill", number=6)
        self.assertEqual(book.of("mill"), (4, 5, 6))
        self.assertEqual(book.shares(house="mill"), [("ann", (2, 3)), ("mill", (1, 3))])

    def test_the_same_asked_again_is_told_the_same(self):
        book = small_book()
        book.sale("mill", "ann", "farm", (1, 3))
        first = told(book)
        self.assertEqual(told(book), first)
        self.assertEqual(told(book), first)

    def test_shares_and_of_refuse_with_no_house(self):
        for deed in ("shares", "of"):
            for house in ("inn", "ann", "bob") + NO_NAMES:
                self.refused(NoHouse, small_book(), deed, house)
                self.refused(NoHouse, Book(), deed, house)


class Persons(BookTest):

    def test_names(self):
        book = Book()
        for count, name in enumerate(NAMES):
            book.person(name)
            self.assertEqual(book.persons(), sorted(NAMES[:count + 1]))

    def test_no_names(self):
        for book in (Book(), small_book(), full_book()):
            for text in NO_NAMES:
                self.refused(NoName, book, "person", text)

    def test_twice(self):
        book = small_book()
        for name in ("ann", "bob", "mill", "farm"):
            self.refused(Twice, book, "person", name)

    def test_the_sixth_and_the_seventh(self):
        book = Book()
        for name in SIX_PERSONS:
            book.person(name)
        self.assertEqual(book.persons(), list(SIX_PERSONS))
        self.refused(TooMany, book, "person", "gus")

    def test_houses_take_no_persons_place(self):
        book = Book()
        book.person("ann")
        for name in EIGHT_HOUSES:
            book.house(name, "ann", 0, 0, 0)
        for name in SIX_PERSONS[1:]:
            book.person(name)
        self.refused(TooMany, book, "person", "gus")

    def test_no_name_then_twice_then_too_many(self):
        book = full_book()
        self.refused(NoName, book, "person", "Ann")
        self.refused(Twice, book, "person", "ann")
        self.refused(Twice, book, "person", "ha")
        self.refused(TooMany, book, "person", "gus")


class Houses(BookTest):

    def test_names(self):
        book = Book()
        book.person("ann")
        for count, name in enumerate(NAMES):
            book.house(name, "ann", count, count, count)
            self.assertEqual(book.houses(), sorted(NAMES[:count + 1]))

    def test_no_names(self):
        for book in (Book(), small_book(), full_book()):
            for text in NO_NAMES:
                self.refused(NoName, book, "house", text, "ann", 1, 2, 3)
                self.refused(NoName, book, "house", text, text, 1, 2, 3)

    def test_twice(self):
        book = small_book()
        for name in ("ann", "bob", "mill", "farm"):
            self.refused(Twice, book, "house", name, "ann", 1, 2, 3)

    def test_no_holder(self):
        book = small_book()
        for owner in ("inn", "gus", "an", "anna") + NO_NAMES:
            self.refused(NoHolder, book, "house", "barn", owner, 1, 2, 3)
        self.refused(NoHolder, Book(), "house", "barn", "ann", 1, 2, 3)

    def test_its_own_name_is_no_holder_ahead_of_the_deed(self):
        self.refused(NoHolder, small_book(), "house", "barn", "barn", 1, 2, 3)
        self.refused(NoHolder, Book(), "house", "barn", "barn", 1, 2, 3)

    def test_a_loss_of_nothing_and_below(self):
        book = small_book()
        book.house("barn", "farm", 1, 2, 0)
        self.assertEqual(book.of("barn"), (1, 2, 0))
        self.refused(NoLoss, book, "house", "inn", "farm", 1, 2, -1)
        self.refused(NoLoss, book, "house", "inn", "farm", 1, 2, -MOST)

    def test_the_eighth_and_the_ninth(self):
        book = Book()
        book.person("ann")
        for name in EIGHT_HOUSES:
            book.house(name, "ann", 1, 2, 3)
        self.assertEqual(book.houses(), list(EIGHT_HOUSES))
        self.refused(TooMany, book, "house", "hi", "ann", 1, 2, 3)

    def test_persons_take_no_houses_place(self):
        book = full_book()
        self.assertEqual((len(book.persons()), len(book.houses())), (6, 8))

    def test_the_order_of_refusals(self):
        book = full_book()
        self.refused(NoName, book, "house", "Ha", "nobody", 1, 2, -1)
        self.refused(Twice, book, "house", "ha", "nobody", 1, 2, -1)
        self.refused(Twice, book, "house", "ann", "", 1, 2, -1)
        self.refused(NoHolder, book, "house", "hi", "nobody", 1, 2, -1)
        self.refused(NoHolder, book, "house", "hi", "nobody", 1, 2, 0)
        self.refused(NoLoss, book, "house", "hi", "ann", 1, 2, -1)
        self.refused(TooMany, book, "house", "hi", "ann", 1, 2, 0)

    def test_the_order_of_two_refusals_in_a_book_with_room(self):
        book = small_book()
        self.refused(NoName, book, "house", "Inn", "ann", 1, 2, -1)
        self.refused(NoName, book, "house", "Inn", "nobody", 1, 2, 0)
        self.refused(Twice, book, "house", "mill", "ann", 1, 2, -1)
        self.refused(Twice, book, "house", "mill", "nobody", 1, 2, 0)
        self.refused(NoHolder, book, "house", "inn", "nobody", 1, 2, -1)


class ThingsMarkLoss(BookTest):

    def test_no_house(self):
        for deed in ("things", "mark", "loss"):
            for house in ("inn", "ann", "bob") + NO_NAMES:
                self.refused(NoHouse, small_book(), deed, house, 1)

    def test_a_loss_of_nothing_and_below(self):
        book = small_book()
        book.loss("mill", 0)
        self.assertEqual(book.of("mill"), (100, 50, 0))
        self.refused(NoLoss, book, "loss", "mill", -1)
        self.refused(NoLoss, book, "loss", "mill", -MOST)

    def test_loss_refuses_with_no_house_first(self):
        self.refused(NoHouse, small_book(), "loss", "inn", -1)
        self.refused(NoHouse, small_book(), "loss", "ann", -1)

    def test_long_numbers_either_way(self):
        book = small_book()
        for number in (MOST, -MOST, 10 ** 29, -10 ** 29):
            book.things("mill", number)
            book.mark("mill", -number)
            book.loss("mill", abs(number))
            self.assertEqual(book.of("mill"), (number, -number, abs(number)))
        book.house("inn", "ann", -MOST, MOST, MOST)
        self.assertEqual(book.of("inn"), (-MOST, MOST, MOST))

    def test_numbers_that_python_does_not_write_out(self):
        book = small_book()
        number = 10 ** 19999
        book.things("mill", -number)
        book.loss("mill", number)
        self.assertTrue(book.of("mill") == (-number, 50, number))
        with self.assertRaises(NoLoss):
            book.loss("mill", -number)
        with self.assertRaises(NoLoss):
            book.house("inn", "ann", 0, 0, -number)
        with self.assertRaises(NoShare):
            book.sale("mill", "ann", "bob", (number + 1, number))


class Sales(BookTest):

    def test_of_a_part(self):
        book = small_book()
        book.sale("mill", "ann", "bob", (1, 3))
        self.assertEqual(book.shares("mill"), [("ann", (2, 3)), ("bob", (1, 3))])
        book.sale("mill", "ann", "farm", (1, 6))
        self.assertEqual(book.shares("mill"), [("ann", (1, 2)), ("bob", (1, 3)), ("farm", (1, 6))])
        self.assertEqual(book.shares("farm"), [("mill", (1, 1))])
        self.assertEqual(book.of("mill"), (100, 50, 10))
        self.check_shares(book)

    def test_of_all(self):
        book = small_book()
        book.sale("mill", "ann", "bob", (1, 1))
        self.assertEqual(book.shares("mill"), [("bob", (1, 1))])
        book.sale("mill", "bob", "ann", (3, 4))
        book.sale("mill", "bob", "farm", (1, 4))
        self.assertEqual(book.shares("mill"), [("ann", (3, 4)), ("farm", (1, 4))])
        self.check_shares(book)

    def test_to_oneself(self):
        book = small_book()
        before = told(book)
        book.sale("mill", "ann", "ann", (1, 1))
        self.assertEqual(told(book), before)
        book.sale("mill", "ann", "ann", (2, 7))
        self.assertEqual(told(book), before)
        book.sale("mill", "ann", "bob", (1, 2))
        before = told(book)
        book.sale("mill", "bob", "bob", (1, 2))
        self.assertEqual(told(book), before)
        self.refused(NoShare, book, "sale", "mill", "bob", "bob", (2, 3))
        self.refused(NoShare, book, "sale", "mill", "farm", "farm", (1, 2))
        self.check_shares(book)

    def test_to_the_house_itself_and_by_it(self):
        book = small_book()
        book.sale("mill", "ann", "mill", (1, 4))
        self.assertEqual(book.shares("mill"), [("ann", (3, 4)), ("mill", (1, 4))])
        book.sale("mill", "ann", "mill", (3, 4))
        self.assertEqual(book.shares("mill"), [("mill", (1, 1))])
        book.sale("mill", "mill", "mill", (1, 2))
        self.assertEqual(book.shares("mill"), [("mill", (1, 1))])
        book.sale("mill", "mill", "bob", (2, 5))
        self.assertEqual(book.shares("mill"), [("bob", (2, 5)), ("mill", (3, 5))])
        self.check_shares(book)

    def test_in_a_ring(self):
        book = small_book()
        book.sale("mill", "ann", "farm", (1, 1))
        self.assertEqual(book.shares("mill"), [("farm", (1, 1))])
        self.assertEqual(book.shares("farm"), [("mill", (1, 1))])

    def test_of_what_was_bought_in_parts(self):
        book = small_book()
        for share in ((1, 2), (1, 3), (1, 7)):
            book.sale("mill", "ann", "bob", share)
            self.check_shares(book)
        self.assertEqual(book.shares("mill"), [("ann", (1, 42)), ("bob", (41, 42))])
        book.sale("mill", "bob", "farm", (41, 42))
        self.assertEqual(book.shares("mill"), [("ann", (1, 42)), ("farm", (41, 42))])
        book.sale("mill", "ann", "farm", (1, 42))
        self.assertEqual(book.shares("mill"), [("farm", (1, 1))])

    def test_lowest_terms(self):
        book = small_book()
        book.sale("mill", "ann", "bob", (1, 6))
        book.sale("mill", "ann", "bob", (1, 6))
        self.assertEqual(book.shares("mill"), [("ann", (2, 3)), ("bob", (1, 3))])
        book.sale("mill", "ann", "bob", (1, 6))
        self.assertEqual(book.shares("mill"), [("ann", (1, 2)), ("bob", (1, 2))])

    def test_shares_are_told_by_names(self):
        book = full_book()
        for holder in ("hc", "bob", "hh", "fay", "ha", "eve"):
            book.sale("ha", "ann", holder, (1, 10))
        self.assertEqual(
            book.shares("ha"),
            [("ann", (2, 5)), ("bob", (1, 10)), ("eve", (1, 10)), ("fay", (1, 10)),
             ("ha", (1, 10)), ("hc", (1, 10)), ("hh", (1, 10))],
        )

    def test_edges_of_the_share(self):
        book = small_book()
        book.sale("mill", "ann", "bob", (1, 3))
        for share in ((0, 1), (-1, 1), (-1, 3), (-MOST, 1), (4, 3), (2, 1), (MOST, 1)):
            self.refused(NoShare, book, "sale", "mill", "ann", "bob", share)
            self.refused(NoShare, book, "sale", "mill", "ann", "ann", share)
        self.refused(NoShare, book, "sale", "mill", "ann", "bob", (1, 1))
        self.refused(NoShare, book, "sale", "mill", "ann", "bob", (2 * 10 ** 28 + 1, 3 * 10 ** 28))
        self.refused(NoShare, book, "sale", "mill", "farm", "bob", (1, MOST))
        book.sale("mill", "ann", "bob", (2, 3))
        self.assertEqual(book.shares("mill"), [("bob", (1, 1))])
        self.refused(NoShare, book, "sale", "mill", "ann", "bob", (1, MOST))
        self.refused(NoShare, book, "sale", "mill", "bob", "ann", (MOST, MOST - 1))

    def test_no_house_and_no_holder(self):
        book = small_book()
        for text in ("inn", "gus") + NO_NAMES:
            self.refused(NoHouse, book, "sale", text, "ann", "bob", (1, 2))
            self.refused(NoHolder, book, "sale", "mill", text, "bob", (1, 2))
            self.refused(NoHolder, book, "sale", "mill", "ann", text, (1, 2))
            self.refused(NoHolder, book, "sale", "mill", text, text, (1, 2))
        self.refused(NoHouse, book, "sale", "ann", "ann", "bob", (1, 2))

    def test_the_order_of_refusals(self):
        book = small_book()
        self.refused(NoHouse, book, "sale", "inn", "gus", "hal", (0, 1))
        self.refused(NoHouse, book, "sale", "ann", "gus", "bob", (1, 2))
        self.refused(NoHouse, book, "sale", "inn", "ann", "hal", (1, 2))
        self.refused(NoHouse, book, "sale", "inn", "ann", "bob", (2, 1))
        self.refused(NoHolder, book, "sale", "mill", "gus", "bob", (0, 1))
        self.refused(NoHolder, book, "sale", "mill", "ann", "hal", (0, 1))
        self.refused(NoHolder, book, "sale", "mill", "ann", "hal", (2, 1))
        self.refused(NoHolder, book, "sale", "mill", "bob", "hal", (1, 2))

    def test_the_seller_is_looked_at_ahead_of_the_buyer(self):
        with self.assertRaises(NoHolder) as caught:
            small_book().sale("mill", "gus", "hal", (1, 2))
        self.assertIn("gus", str(caught.exception))

    def test_long_numbers(self):
        book = small_book()
        book.sale("mill", "ann", "bob", (MOST - 1, MOST))
        self.assertEqual(book.shares("mill"), [("ann", (1, MOST)), ("bob", (MOST - 1, MOST))])
        book.sale("mill", "bob", "farm", (10 ** 29, MOST))
        book.sale("mill", "bob", "mill", (1, 10 ** 29 + 1))
        self.check_shares(book)
        self.refused(NoShare, book, "sale", "mill", "ann", "bob", (1, MOST - 1))
        book.sale("mill", "ann", "bob", (1, MOST))
        self.assertEqual([row[0] for row in book.shares("mill")], ["bob", "farm", "mill"])
        self.check_shares(book)

    def test_what_was_told_may_be_handed_in_again(self):
        book = small_book()
        for count in range(600):
            book.sale("mill", "ann", "bob", (1, 10 ** 29 + 2 * count + 1))
        share = book.shares("mill")[1][1]
        self.assertGreater(share[1], 10 ** 15000)
        self.check_shares(book)
        book.sale("mill", "bob", "farm", share)
        self.assertTrue(book.shares("mill")[1] == ("farm", share))
        book.sale("mill", "farm", "ann", share)
        self.assertEqual(book.shares("mill"), [("ann", (1, 1))])

    def test_rows_of_deeds_against_pythons_own_fractions(self):
        chance = random.Random(5)
        for _ in range(20):
            book = full_book()
            holders = SIX_PERSONS + EIGHT_HOUSES
            held = {(house, holder): Fraction(int(holder == "ann")) for house in EIGHT_HOUSES for holder in holders}
            for _ in range(60):
                house = chance.choice(EIGHT_HOUSES[:2])
                one = chance.choice([holder for holder in holders if held[house, holder] > 0] + ["bob"])
                other = chance.choice(holders)
                share = Fraction(chance.randint(-1, 12), chance.randint(1, 12))
                share = chance.choice([share, share / 20, held[house, one]])
                handed = (house, one, other, (share.numerator, share.denominator))
                if 0 < share <= held[house, one]:
                    book.sale(*handed)
                    held[house, one] -= share
                    held[house, other] += share
                else:
                    self.refused(NoShare, book, "sale", *handed)
            for house in EIGHT_HOUSES:
                rows = [(holder, held[house, holder]) for holder in sorted(holders) if held[house, holder] > 0]
                rows = [(holder, (share.numerator, share.denominator)) for holder, share in rows]
                self.assertEqual(book.shares(house), rows)
            self.check_shares(book)


class AskersOwn(BookTest):

    def test_changing_what_was_told_changes_no_later_answer(self):
        book = small_book()
        book.sale("mill", "ann", "bob", (1, 3))
        before = told(book)
        for answer in (book.persons(), book.houses(), book.shares("mill"), book.shares("farm")):
            answer.append("more")
            answer[0] = "other"
            answer.reverse()
        self.assertEqual(told(book), before)
        book.persons().clear()
        book.houses().clear()
        book.shares("mill").clear()
        self.assertEqual(told(book), before)
        self.refused(NoHolder, book, "sale", "mill", "more", "ann", (1, 3))

    def test_later_deeds_change_nothing_that_was_told(self):
        book = small_book()
        persons, houses, shares, facts = book.persons(), book.houses(), book.shares("mill"), book.of("mill")
        book.person("cid")
        book.house("barn", "cid", 1, 2, 3)
        book.sale("mill", "ann", "cid", (1, 2))
        book.things("mill", 1)
        book.mark("mill", 2)
        book.loss("mill", 3)
        self.assertEqual(persons, ["ann", "bob"])
        self.assertEqual(houses, ["farm", "mill"])
        self.assertEqual(shares, [("ann", (1, 1))])
        self.assertEqual(facts, (100, 50, 10))

    def test_each_answer_is_a_list_of_its_own(self):
        book = small_book()
        self.assertIsNot(book.persons(), book.persons())
        self.assertIsNot(book.houses(), book.houses())
        self.assertIsNot(book.shares("mill"), book.shares("mill"))


class Twins(BookTest):

    def every_deed(self, book):
        book.person("cid")
        book.house("barn", "cid", 1, 2, 3)
        book.sale("mill", "ann", "barn", (1, 2))
        book.sale("farm", "mill", "cid", (1, 1))
        book.things("mill", 1)
        book.mark("mill", 2)
        book.loss("mill", 3)

    def test_a_twin_is_alike(self):
        for book in (Book(), small_book(), full_book()):
            self.assertIsNot(book.twin(), book)
            self.assertIs(type(book.twin()), Book)
            self.assertEqual(told(book.twin()), told(book))

    def test_deeds_on_the_book_leave_the_twin(self):
        book = small_book()
        before = told(book)
        twin = book.twin()
        self.every_deed(book)
        self.assertEqual(told(twin), before)
        self.every_deed(twin)
        self.assertEqual(told(twin), told(book))

    def test_deeds_on_the_twin_leave_the_book(self):
        book = small_book()
        before = told(book)
        twin = book.twin()
        self.every_deed(twin)
        self.assertEqual(told(book), before)
        self.every_deed(book)
        self.assertEqual(told(book), told(twin))

    def test_each_single_deed_stays_on_its_side(self):
        deeds = (
            ("person", ("cid",)), ("house", ("barn", "ann", 1, 2, 3)), ("sale", ("mill", "ann", "bob", (1, 2))),
            ("sale", ("mill", "ann", "mill", (1, 1))), ("things", ("mill", 1)), ("mark", ("mill", 2)),
            ("loss", ("mill", 3)),
        )
        for deed, handed in deeds:
            book = small_book()
            before = told(book)
            twin = book.twin()
            getattr(twin, deed)(*handed)
            self.assertEqual(told(book), before)
            self.assertNotEqual(told(twin), before)
            other = book.twin()
            getattr(book, deed)(*handed)
            self.assertEqual(told(other), before)
            self.assertEqual(told(book), told(twin))

    def test_a_twin_of_a_twin(self):
        book = small_book()
        twin = book.twin()
        third = twin.twin()
        before = told(book)
        self.every_deed(twin)
        self.assertEqual((told(book), told(third)), (before, before))
        behind = told(twin)
        self.every_deed(third)
        third.sale("mill", "ann", "bob", (1, 4))
        self.assertEqual((told(book), told(twin)), (before, behind))
        self.assertNotEqual(told(third), behind)

    def test_a_twin_refuses_as_its_book_does(self):
        twin = full_book().twin()
        self.refused(Twice, twin, "person", "ann")
        self.refused(TooMany, twin, "person", "gus")
        self.refused(TooMany, twin, "house", "hi", "ann", 1, 2, 3)
        self.refused(NoShare, twin, "sale", "ha", "bob", "ann", (1, 2))

    def test_two_new_books_share_nothing(self):
        book = small_book()
        self.assertEqual(told(Book()), ([], [], []))
        other = small_book()
        self.every_deed(other)
        self.assertEqual(told(book), told(small_book()))


if __name__ == "__main__":
    unittest.main()
