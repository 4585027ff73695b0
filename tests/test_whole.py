"""What the document promises over the whole program: each sentence of its point 4, of books of all sorts."""

import random
import unittest

from helper import (
    chance_books, flat, fraction, greatest_group, is_shut_lot, owns_itself_whole, ruled_lot, share_of, things_of,
    whole_books, worths_by,
)
from wholeowners.errors import Whole
from wholeowners.falls import agreeing, agrees, fewest, spared
from wholeowners.gifts import are_prices, least_gifts
from wholeowners.reach import reached
from wholeowners.ruling import are_steps, is_shut, ruler, rules, self_ruled
from wholeowners.texts import read, shown
from wholeowners.worths import parts, through, whole_group, worths


def every_book():
    return chance_books(random.Random(60), 60) + [book for book, group in whole_books()]


def every_call(book):
    # All that is refused where a group owns itself whole.
    yield from ((worths,), (parts,), (fewest,), (spared,), (agreeing,), (least_gifts,), (agrees, []))
    yield (are_prices, (0, 1), [])
    for holder in book.persons() + book.houses():
        for house in book.houses():
            yield (through, holder, house)


def steps_to(book, holder):
    # Each house with all voters that were there ahead of its round.
    steps = []
    voters = [holder]
    for found in rules(book, holder):
        steps += [(house, list(voters)) for house in found]
        voters += [house for house in found if house != holder]
    return steps


class TheWhole(unittest.TestCase):

    def test_either_worths_or_the_greatest_group(self):
        seen = {True: 0, False: 0}
        for book in every_book():
            group = whole_group(book)
            self.assertEqual(group, greatest_group(book))
            seen[group == []] += 1
            if group == []:
                self.check_worths(book)
            else:
                self.check_refused(book, group)
        self.assertGreater(min(seen.values()), 5)

    def check_worths(self, book):
        worth = worths_by(book, things_of(book))
        self.assertEqual({house: fraction(found) for house, found in worths(book)}, worth)
        self.assertEqual(sum(fraction(part) for person, part in parts(book)), sum(things_of(book).values()))

    def check_refused(self, book, group):
        self.assertTrue(owns_itself_whole(book, group))
        for call, *handed in every_call(book):
            with self.assertRaises(Whole) as caught:
                call(book, *handed)
            self.assertEqual(caught.exception.group, group)

    def test_what_a_holder_rules(self):
        for book in every_book():
            for holder in book.persons() + book.houses():
                lot = sorted(flat(rules(book, holder)))
                self.assertEqual(lot, ruled_lot(book, holder))
                self.assertTrue(is_shut_lot(book, holder, lot))
                self.assertIs(are_steps(book, holder, steps_to(book, holder)), True)
                self.assertIs(is_shut(book, holder, lot), True)

    def test_no_house_is_ruled_by_two_persons(self):
        for book in every_book():
            for house in book.houses():
                rulers = [person for person in book.persons() if house in flat(rules(book, person))]
                self.assertEqual([ruler(book, house)], rulers or [None])
            self.assertEqual(self_ruled(book), [house for house in book.houses() if house in ruled_lot(book, house)])

    def test_the_fewest_and_the_most_fallen(self):
        for book in every_book():
            if whole_group(book) == []:
                least = set(flat(fewest(book)))
                most = set(book.houses()) - set(flat(spared(book)))
                self.assertIs(agrees(book, sorted(least)), True)
                self.assertIs(agrees(book, sorted(most)), True)
                for lot in agreeing(book):
                    self.assertTrue(least <= set(lot) <= most)

    def test_the_told_gifts_keep_all_standing_and_prices_show_it(self):
        for book in every_book():
            if whole_group(book) == []:
                total, gifts, prices = least_gifts(book)
                given = dict(gifts)
                things = things_of(book)
                worth = worths_by(book, {house: things[house] + fraction(given[house]) for house in things})
                self.assertTrue(all(worth[house] >= book.of(house)[1] for house in worth))
                self.assertIs(are_prices(book, total, prices), True)

    def test_a_change_changes_nothing_that_it_does_not_reach(self):
        for book in every_book():
            for house in book.houses() if whole_group(book) == [] else []:
                before = dict(worths(book) + parts(book))
                changed = book.twin()
                changed.things(house, book.of(house)[0] + 1)
                after = dict(worths(changed) + parts(changed))
                for holder in before:
                    if holder != house and holder not in reached(book, house):
                        self.assertEqual(after[holder], before[holder])
                        self.assertEqual(share_of(book, holder, house), 0)

    def test_a_text_shows_all_that_stands(self):
        texts = {}
        for book in every_book():
            facts = (book.persons(), [(house, book.of(house), book.shares(house)) for house in book.houses()])
            self.assertEqual(texts.setdefault(shown(book), facts), facts)
            self.assertEqual(shown(read(shown(book))), shown(book))


if __name__ == "__main__":
    unittest.main()
