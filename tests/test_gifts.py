"""The least gifts that keep all houses standing, and the looker of the prices that show it."""

import copy
import random
import unittest
from fractions import Fraction
from itertools import permutations
from math import lcm

from helper import (
    HALF, HOUSES, THIRD, asked, chance_books, fraction, is_fraction, is_row_of_fractions, lots_of, made, owning_row,
    ratio, share_of, solution_of, things_of, whole_books, worths_by,
)
from wholeowners.books import Book
from wholeowners.falls import fewest
from wholeowners.gifts import are_prices, least_gifts

LONG = 10 ** 29 + 319
ZERO = (0, 1)
ONE = (1, 1)


def alone(*rows):
    # Houses that hold nothing of one another: their things and marks.
    return made(["ann"], {house: (*row, 0, {}) for house, row in zip(HOUSES, rows)})


def ring():
    # Each is worth 20, and one thing more of the one is worth 4/3 to it and 2/3 to the other.
    return made(["ann"], {"ha": (10, 23, 5, {"hb": HALF}), "hb": (10, 20, 5, {"ha": HALF})})


def marks_of(book):
    return {house: book.of(house)[1] for house in book.houses()}


def due_by(book, house, weights):
    persons = sum(share_of(book, person, house) for person in book.persons())
    return persons + sum(share_of(book, other, house) * weights[other] for other in book.houses())


def total_by(book, prices, weights):
    things, marks = things_of(book), marks_of(book)
    return sum(prices[house] * marks[house] + (weights[house] - 1) * things[house] for house in book.houses())


def held_at_marks(book, lot):
    # Worths where those of the lot are worth their marks, and all others have their things alone.
    houses = book.houses()
    rows = []
    for house in houses:
        plain = [int(house == other) for other in houses] + [book.of(house)[1]]
        rows.append(plain if house in lot else owning_row(book, house) + [book.of(house)[0]])
    return dict(zip(houses, solution_of(rows)))


def gifts_for(book, worth):
    houses = book.houses()
    held = {house: sum(share_of(book, house, other) * worth[other] for other in houses) for house in houses}
    return {house: worth[house] - held[house] - book.of(house)[0] for house in houses}


def keep_all_standing(book, gifts):
    worth = worths_by(book, {house: book.of(house)[0] + gifts[house] for house in book.houses()})
    return all(worth[house] >= book.of(house)[1] for house in book.houses())


def corner_gifts(book):
    # Of every lot the gifts that hold just it at its marks, where they are from 0 on and keep all standing.
    rows = [gifts_for(book, held_at_marks(book, lot)) for lot in lots_of(book.houses())]
    return [gifts for gifts in rows if min(gifts.values(), default=0) >= 0 and keep_all_standing(book, gifts)]


def chance_gifts(chance, book, told):
    # Others round about those told, and of all sizes.
    rows = []
    for _ in range(12):
        gifts = {house: told[house] + Fraction(chance.randint(-3, 3), chance.randint(1, 3)) for house in told}
        rows.append({house: max(Fraction(0), gift) for house, gift in gifts.items()})
        rows.append({house: Fraction(chance.choice((0, chance.randint(0, 99)))) for house in told})
    return [gifts for gifts in rows if keep_all_standing(book, gifts)]


class GiftsTest(unittest.TestCase):

    def check_form(self, book, told):
        self.assertIs(type(told), tuple)
        self.assertEqual(len(told), 3)
        self.assertTrue(is_fraction(told[0]))
        self.assertTrue(is_row_of_fractions(told[1], book.houses()))
        self.assertIs(type(told[2]), list)
        self.assertEqual([(type(row), len(row)) for row in told[2]], [(tuple, 3)] * len(book.houses()))
        self.assertEqual([row[0] for row in told[2]], book.houses())
        self.assertTrue(all(is_fraction(row[1]) and is_fraction(row[2]) for row in told[2]))

    def check_gifts(self, book, told):
        gifts = {house: fraction(gift) for house, gift in told[1]}
        self.assertGreaterEqual(min(gifts.values(), default=0), 0)
        self.assertEqual(sum(gifts.values()), fraction(told[0]))
        self.assertTrue(keep_all_standing(book, gifts))
        return gifts

    def check_prices(self, book, told):
        prices = {house: fraction(price) for house, price, weight in told[2]}
        weights = {house: fraction(weight) for house, price, weight in told[2]}
        self.assertGreaterEqual(min([*prices.values(), *weights.values()], default=0), 0)
        for house in book.houses():
            self.assertEqual(prices[house] + weights[house], due_by(book, house, weights))
        self.assertEqual(total_by(book, prices, weights), fraction(told[0]))
        self.assertIs(are_prices(book, told[0], told[2]), True)

    def check(self, book):
        told = least_gifts(book)
        self.check_form(book, told)
        self.check_prices(book, told)
        return self.check_gifts(book, told)

    def check_least(self, book, gifts, others):
        things = things_of(book)
        worth = worths_by(book, {house: things[house] + gifts[house] for house in things})
        for other in others:
            with_other = worths_by(book, {house: things[house] + other[house] for house in things})
            self.assertTrue(all(worth[house] <= with_other[house] for house in things))
            self.assertLessEqual(sum(gifts.values()), sum(other.values()))

    def check_told(self, book, total, **gifts):
        told = least_gifts(book)
        self.assertEqual(told[0], ratio(total))
        self.assertEqual(told[1], [(house, ratio(gifts[house])) for house in book.houses()])
        found = self.check(book)
        self.check_least(book, found, corner_gifts(book))
        self.assertIn(found, corner_gifts(book))


class LeastGifts(GiftsTest):

    def test_without_houses(self):
        for book in (Book(), made(["ann", "bob"], {})):
            self.assertEqual(least_gifts(book), (ZERO, [], []))

    def test_all_standing(self):
        self.check_told(alone((10, 10), (3, -2), (-4, -4)), 0, ha=0, hb=0, hc=0)
        book = ring()
        book.mark("ha", 20)
        self.check_told(book, 0, ha=0, hb=0)
        book.mark("ha", -5)
        book.mark("hb", 0)
        self.check_told(book, 0, ha=0, hb=0)

    def test_one_house_below_its_mark(self):
        self.check_told(alone((3, 10)), 7, ha=7)
        self.check_told(alone((3, 10), (5, 5), (9, 1)), 7, ha=7, hb=0, hc=0)
        self.assertEqual(least_gifts(alone((3, 10)))[2], [("ha", ONE, ZERO)])

    def test_several_below_their_marks(self):
        self.check_told(alone((3, 10), (5, 6), (9, 1)), 8, ha=7, hb=1, hc=0)

    def test_a_gift_that_keeps_others_standing_through_shares(self):
        # hb is below its mark too, but not with what comes to it of the gift to ha.
        book = made(["ann"], {"ha": (4, 10, 0, {"hb": 1}), "hb": (0, 5, 0, {"hc": HALF}), "hc": (0, 4, 0, {})})
        self.check_told(book, 6, ha=6, hb=0, hc=0)
        book.mark("hb", 10)
        book.mark("hc", 5)
        self.check_told(book, 6, ha=6, hb=0, hc=0)
        book.mark("hb", 12)
        self.check_told(book, 8, ha=6, hb=2, hc=0)
        book.mark("hc", 7)
        self.check_told(book, 9, ha=6, hb=2, hc=1)

    def test_of_gifts_that_come_to_as_little_those_of_the_least_worths(self):
        # A gift of 3 to ha would keep hb standing as well, but make ha's worth more.
        book = made(["ann"], {"ha": (10, 10, 0, {"hb": 1}), "hb": (0, 13, 0, {})})
        self.check_told(book, 3, ha=0, hb=3)

    def test_lifted_round_by_round(self):
        rows = {"ha": (0, 9, 0, {"hb": 1}), "hb": (2, 10, 0, {"hc": 1}), "hc": (0, 11, 0, {"hd": 1})}
        rows.update({"hd": (0, 10, 0, {"he": 1}), "he": (0, 11, 0, {})})
        self.check_told(made(["ann"], rows), 9, ha=9, hb=0, hc=0, hd=0, he=0)
        # From here on each is lifted only by the one before it.
        rows.update({"hc": (0, 10, 0, {"hd": 1}), "he": (0, 10, 0, {})})
        self.check_told(made(["ann"], rows), 9, ha=9, hb=0, hc=0, hd=0, he=0)
        # With names turned about, each round comes to an earlier name.
        rows = {"he": (0, 9, 0, {"hd": 1}), "hd": (2, 10, 0, {"hc": 1}), "hc": (0, 10, 0, {"hb": 1})}
        rows.update({"hb": (0, 10, 0, {"ha": HALF}), "ha": (0, 5, 0, {"ha": HALF})})
        self.check_told(made(["ann"], rows), 9, ha=0, hb=0, hc=0, hd=0, he=9)

    def test_a_house_that_holds_a_part_of_itself(self):
        book = made(["ann"], {"ha": (10, 30, 0, {"ha": HALF})})
        self.check_told(book, 5, ha=5)
        self.assertEqual(least_gifts(book)[2], [("ha", ratio(HALF), ZERO)])

    def test_a_ring(self):
        book = ring()
        self.check_told(book, Fraction(9, 4), ha=Fraction(9, 4), hb=0)
        book.mark("hb", 22)
        self.check_told(book, Fraction(5, 2), ha=2, hb=HALF)
        book.mark("ha", 31)
        book.mark("hb", 26)
        self.check_told(book, Fraction(17, 2), ha=8, hb=HALF)

    def test_a_ring_of_three(self):
        book = made(["ann", "bob"], {
            "ha": (7, 12, 0, {"hc": HALF, "bob": THIRD}), "hb": (0, 2, 0, {"ha": HALF}), "hc": (0, 4, 0, {"hb": HALF}),
        })
        self.check_told(book, Fraction(7, 2), ha=Fraction(7, 2), hb=0, hc=0)

    def test_marks_and_things_below_nothing(self):
        self.check_told(alone((-10, -3), (-3, -10)), 7, ha=7, hb=0)
        # What is below 0 is handed on: hb's own things would do, but for what it holds of ha.
        book = made(["ann"], {"ha": (-10, -6, 0, {"hb": HALF}), "hb": (5, 4, 0, {})})
        self.check_told(book, 6, ha=4, hb=2)
        book.mark("ha", -2)
        self.check_told(book, 8, ha=8, hb=0)

    def test_long_numbers(self):
        self.check_told(alone((-LONG, LONG), (LONG, LONG + 1)), 2 * LONG + 1, ha=2 * LONG, hb=1)
        book = made(["ann"], {"ha": (LONG, 3 * LONG, 0, {"hb": Fraction(1, LONG)}), "hb": (0, 5, 0, {})})
        self.check_told(book, 2 * LONG + 2, ha=2 * LONG, hb=2)
        book.mark("ha", LONG + 1)
        self.check_told(book, 4 + Fraction(LONG - 1, LONG), ha=1, hb=4 - Fraction(1, LONG))

    def test_no_loss_is_counted(self):
        for book in [ring(), alone((3, 10), (5, 5))] + chance_books(random.Random(30), 10, whole=False):
            before = least_gifts(book)
            for house in book.houses():
                book.loss(house, LONG)
            self.assertEqual(least_gifts(book), before)

    def test_refused_with_whole(self):
        for book, group in whole_books():
            self.assertEqual(asked(least_gifts, book), ("Whole", group))

    def test_arguments_have_their_names(self):
        book = ring()
        self.assertEqual(least_gifts(book=book), least_gifts(book))
        total, _, prices = least_gifts(book)
        self.assertIs(are_prices(book=book, total=total, prices=prices), True)


class ReckonedAnew(GiftsTest):

    def test_chance_books(self):
        chance = random.Random(31)
        most = 0
        for book in chance_books(chance, 120, whole=False, reach=20):
            gifts = self.check(book)
            others = corner_gifts(book)
            self.assertIn(gifts, others)
            self.check_least(book, gifts, others + chance_gifts(chance, book, gifts))
            most = max(most, len([gift for gift in gifts.values() if gift > 0]))
        self.assertGreaterEqual(most, 4)

    def test_marks_of_just_the_worths(self):
        # Marks are put to whole worths, so that just the mark comes up often.
        chance = random.Random(32)
        for book in chance_books(chance, 60, whole=False, bottom=2, reach=8):
            worth = worths_by(book, things_of(book))
            for house in book.houses():
                book.mark(house, int(worth[house]) + chance.choice((0, 0, 1)))
            gifts = self.check(book)
            self.check_least(book, gifts, corner_gifts(book))

    def test_great_bottoms_and_long_things(self):
        chance = random.Random(33)
        for bounds in ({"bottom": 10 ** 6, "reach": 10 ** 29}, {"bottom": 10 ** 28, "reach": 10 ** 29}):
            for book in chance_books(chance, 12, whole=False, **bounds):
                self.check_least(book, self.check(book), corner_gifts(book))

    def test_gifts_put_to_the_things(self):
        chance = random.Random(34)
        given = 0
        for book in chance_books(chance, 60, whole=False, reach=20):
            gifts = {house: fraction(gift) for house, gift in least_gifts(book)[1]}
            many = lcm(*[gift.denominator for gift in gifts.values()])
            # With so many times as much of all, the gifts are whole.
            for house in book.houses():
                book.things(house, book.of(house)[0] * many)
                book.mark(house, book.of(house)[1] * many)
            self.assertEqual(least_gifts(book)[1], [(house, ratio(gift * many)) for house, gift in gifts.items()])
            for house, gift in least_gifts(book)[1]:
                book.things(house, book.of(house)[0] + gift[0])
            self.assertEqual(fewest(book), [])
            self.assertEqual(least_gifts(book)[:2], (ZERO, [(house, ZERO) for house in book.houses()]))
            given += self.check_one_less(book, gifts)
        self.assertGreater(given, 30)

    def check_one_less(self, book, gifts):
        # As no gifts come to less, one thing less of what was given leaves some house below its mark.
        given = [house for house in gifts if gifts[house] > 0]
        for house in given:
            less = book.twin()
            less.things(house, book.of(house)[0] - 1)
            self.assertNotEqual(fewest(less), [])
        return len(given)

    def test_after_hundreds_of_sales(self):
        book = ring()
        for count in range(200):
            book.sale("ha", "ann", "hb", (1, 10 ** 29 + 2 * count + 1))
        told = least_gifts(book)
        # Numbers that Python does not write out.
        self.assertGreater(told[0][1], 10 ** 4500)
        self.check(book)


class ArePrices(GiftsTest):

    def test_what_was_told_in_any_order(self):
        for book in [ring()] + chance_books(random.Random(35), 25, whole=False, most_houses=4):
            total, _, prices = least_gifts(book)
            for rows in permutations(prices):
                self.assertIs(are_prices(book, total, list(rows)), True)

    def test_another_sum(self):
        for book in [Book(), ring()] + chance_books(random.Random(36), 25, whole=False, most_houses=4):
            total, _, prices = least_gifts(book)
            for by in (1, -1, HALF, Fraction(1, LONG), -Fraction(1, LONG), LONG):
                self.assertIs(are_prices(book, ratio(fraction(total) + by), prices), False)

    def test_without_houses(self):
        for book in (Book(), made(["ann"], {})):
            self.assertIs(are_prices(book, ZERO, []), True)
            self.assertIs(are_prices(book, ONE, []), False)
            for name in ("ann", "ha", ""):
                self.assertIs(are_prices(book, ZERO, [(name, ZERO, ONE)]), False)

    def test_a_house_left_out(self):
        # The house has neither things nor a mark, so that the sum is the same without it.
        book = alone((3, 10), (0, 0))
        total, _, prices = least_gifts(book)
        self.assertIs(are_prices(book, total, prices), True)
        self.assertIs(are_prices(book, total, prices[:1]), False)
        self.assertIs(are_prices(book, ZERO, prices[1:]), False)
        self.assertIs(are_prices(book, total, []), False)
        self.assertIs(are_prices(book, ZERO, []), False)

    def test_a_house_twice(self):
        book = alone((3, 10), (0, 0))
        total, _, prices = least_gifts(book)
        self.assertIs(are_prices(book, total, prices + prices[1:]), False)
        self.assertIs(are_prices(book, total, prices[1:] + prices), False)
        self.assertIs(are_prices(book, (14, 1), prices + prices[:1]), False)
        self.assertIs(are_prices(book, (14, 1), prices[:1] + prices[:1]), False)
        self.assertIs(are_prices(book, total, prices + prices), False)

    def test_a_name_that_is_no_house(self):
        book = alone((3, 10), (0, 0))
        total, _, prices = least_gifts(book)
        for name in ("", "ann", "nobody", "HB", "hb ", "hb\n", "~", "a" * 10000):
            self.assertIs(are_prices(book, total, prices + [(name, ZERO, ZERO)]), False)
            self.assertIs(are_prices(book, total, [(name, ZERO, ONE)] + prices), False)
            self.assertIs(are_prices(book, total, prices[:1] + [(name,) + prices[1][1:]]), False)

    def test_a_price_or_a_weight_below_nothing(self):
        # Both come together as told and to the sum.
        book = alone((3, 10))
        for price in (0, 1, HALF, Fraction(1, LONG)):
            self.assertIs(are_prices(book, ratio(7 * price), [("ha", ratio(price), ratio(1 - price))]), True)
        for price in (-1, 2, -HALF, 3 * HALF, -Fraction(1, LONG), 1 + Fraction(1, LONG), -LONG):
            self.assertIs(are_prices(book, ratio(7 * price), [("ha", ratio(price), ratio(1 - price))]), False)

    def test_below_nothing_in_a_ring(self):
        book = made(["ann"], {"ha": (0, 0, 0, {"hb": HALF}), "hb": (0, 0, 0, {"ha": HALF})})
        self.assertIs(are_prices(book, ZERO, [("ha", ratio(HALF), ZERO), ("hb", ratio(HALF), ZERO)]), True)
        self.assertIs(are_prices(book, ZERO, [("ha", ONE, ZERO), ("hb", ratio(-HALF), ONE)]), False)
        self.assertIs(are_prices(book, ZERO, [("ha", ZERO, ratio(HALF)), ("hb", (3, 4), ZERO)]), True)
        self.assertIs(are_prices(book, ZERO, [("ha", ZERO, ONE), ("hb", ZERO, ONE)]), True)
        self.assertIs(are_prices(book, ZERO, [("ha", ONE, (-1, 2)), ("hb", (1, 4), ZERO)]), False)

    def test_what_does_not_come_together_as_told(self):
        # As neither things nor a mark is there, the sum is 0 whatever is handed in.
        book = alone((0, 0))
        for price, weight in ((0, 0), (1, 1), (HALF, THIRD), (0, 2), (2, 0), (1, Fraction(1, LONG))):
            self.assertIs(are_prices(book, ZERO, [("ha", ratio(price), ratio(weight))]), False)
        book = made(["ann"], {"ha": (0, 0, 0, {"hb": HALF}), "hb": (0, 0, 0, {})})
        self.assertIs(are_prices(book, ZERO, [("ha", ONE, ZERO), ("hb", ZERO, ONE)]), True)
        self.assertIs(are_prices(book, ZERO, [("ha", ratio(HALF), ZERO), ("hb", ZERO, ONE)]), False)
        self.assertIs(are_prices(book, ZERO, [("ha", ratio(HALF), ZERO), ("hb", ONE, ZERO)]), True)
        self.assertIs(are_prices(book, ZERO, [("ha", ONE, ZERO), ("hb", ONE, ZERO)]), False)
        self.assertIs(are_prices(book, ZERO, [("hb", ONE, ZERO), ("ha", ZERO, ratio(HALF))]), True)

    def test_a_share_of_itself(self):
        book = made(["ann"], {"ha": (0, 1, 0, {"ha": HALF})})
        self.assertIs(are_prices(book, ratio(HALF), [("ha", ratio(HALF), ZERO)]), True)
        self.assertIs(are_prices(book, ratio(HALF / 2), [("ha", (1, 4), ratio(HALF))]), True)
        self.assertIs(are_prices(book, ZERO, [("ha", ZERO, ONE)]), True)
        self.assertIs(are_prices(book, ratio(HALF), [("ha", ratio(HALF), ratio(HALF))]), False)

    def test_a_fraction_to_which_no_gifts_come(self):
        book = alone((3, 10), (9, 4))
        self.assertEqual(least_gifts(book)[0], (7, 1))
        self.assertIs(are_prices(book, ZERO, [("ha", ZERO, ONE), ("hb", ZERO, ONE)]), True)
        self.assertIs(are_prices(book, (-5, 1), [("ha", ZERO, ONE), ("hb", ONE, ZERO)]), True)
        self.assertIs(are_prices(book, (2, 1), [("ha", ONE, ZERO), ("hb", ONE, ZERO)]), True)
        self.assertIs(are_prices(book, (7, 1), [("ha", ONE, ZERO), ("hb", ZERO, ONE)]), True)

    def test_no_prices_come_to_more_than_the_least_gifts(self):
        chance = random.Random(37)
        for book in chance_books(chance, 40, whole=False, most_houses=4):
            total = fraction(least_gifts(book)[0])
            for _ in range(8):
                rows, come = self.chance_prices(chance, book, Fraction(chance.randint(0, 6), 6))
                self.assertIs(are_prices(book, ratio(come), rows), True)
                self.assertLessEqual(come, total)

    def chance_prices(self, chance, book, part):
        # Weights of some lot held at its marks, mixed with weights of 1, by the part told.
        lot = chance.choice(lots_of(book.houses()))
        houses = book.houses()
        rows = []
        for house in houses:
            plain = [int(house == other) for other in houses]
            column = [owning_row(book, other)[houses.index(house)] for other in houses]
            rows.append(plain + [0] if house in lot else column + [sum(column)])
        found = dict(zip(houses, solution_of(rows)))
        weights = {house: part * found[house] + 1 - part for house in houses}
        prices = {house: due_by(book, house, weights) - weights[house] for house in houses}
        told = [(house, ratio(prices[house]), ratio(weights[house])) for house in houses]
        chance.shuffle(told)
        return told, total_by(book, prices, weights)

    def test_chance_prices_against_the_document(self):
        chance = random.Random(38)
        seen = {True: 0, False: 0}
        for book in chance_books(chance, 50, whole=False, most_houses=4, reach=3):
            for _ in range(10):
                rows, come = self.chance_prices(chance, book, Fraction(chance.randint(0, 3), 3))
                rows = [self.changed(chance, row) for row in rows]
                prices = {house: fraction(price) for house, price, weight in rows}
                weights = {house: fraction(weight) for house, price, weight in rows}
                good = min([*prices.values(), *weights.values()], default=0) >= 0
                good = good and all(prices[house] + weights[house] == due_by(book, house, weights) for house in prices)
                good = good and total_by(book, prices, weights) == come
                self.assertIs(are_prices(book, ratio(come), rows), good)
                seen[good] += 1
        self.assertGreater(min(seen.values()), 50)

    def changed(self, chance, row):
        by = chance.choice((0, 0, 0, 0, 0, Fraction(1, 6), -Fraction(1, 6)))
        return (row[0], ratio(fraction(row[1]) + by), ratio(fraction(row[2]) - chance.choice((0, by))))

    def test_numbers_of_300_figures(self):
        chance = random.Random(39)
        bottom = 10 ** 300 - 1
        books = [ring(), alone((LONG, -LONG), (-LONG, LONG))]
        for book in books + chance_books(chance, 10, whole=False, most_houses=4, reach=10 ** 29):
            part = Fraction(chance.randint(10 ** 299, bottom), bottom)
            rows, come = self.chance_prices(chance, book, part)
            self.assertIs(are_prices(book, ratio(come), rows), True)
            if rows:
                off = [(rows[0][0], rows[0][1], ratio(fraction(rows[0][2]) + Fraction(1, bottom)))] + rows[1:]
                self.assertIs(are_prices(book, ratio(come), off), False)
                self.assertIs(are_prices(book, ratio(come + Fraction(1, bottom)), rows), False)

    def test_the_list_handed_in_stays(self):
        book = ring()
        total, _, prices = least_gifts(book)
        for rows in (prices, prices[::-1], prices[:1], prices * 2, [("nobody", ZERO, ONE)]):
            kept = copy.deepcopy(rows)
            first = are_prices(book, total, rows)
            self.assertEqual(rows, kept)
            self.assertIs(are_prices(book, total, rows), first)

    def test_refused_with_whole(self):
        for book, group in whole_books():
            good = [(house, ZERO, ONE) for house in book.houses()]
            for rows in (good, good[::-1], good[1:], [], [("nobody", ZERO, ONE)], [("ha", (-1, 1), (-1, 1))] * 2):
                self.assertEqual(asked(are_prices, book, ZERO, rows), ("Whole", group))
                self.assertEqual(asked(are_prices, book, ONE, rows), ("Whole", group))


if __name__ == "__main__":
    unittest.main()
