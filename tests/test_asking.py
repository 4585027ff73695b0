"""What holds of every question: what is told is the asker's own, what is handed in stays, deeds count as they stand."""

import copy
import random
import unittest
from fractions import Fraction

from helper import HOUSES, PERSONS, anew, answers, asked, calls, chance_books, lists_in, made, ratio, told
from wholeowners.errors import OwnError, Whole
from wholeowners.falls import agreeing, fewest, spared
from wholeowners.ruling import are_steps, is_shut, rules
from wholeowners.texts import read, shown
from wholeowners.worths import whole_group

HALF = Fraction(1, 2)


def some_books():
    chance = random.Random(20)
    return chance_books(chance, 25, whole=False) + chance_books(chance, 8, whole=True, most_houses=4)


def many_lists():
    # A book of which every list of lists has several lists, none of them empty.
    return made(["ann"], {
        "ha": (9, 10, 9, {"hb": Fraction(2, 3)}),
        "hb": (0, 2, 0, {"hc": Fraction(2, 3)}),
        "hc": (9, 8, 5, {}),
        "hd": (9, 4, 5, {}),
        "he": (0, -1, 1, {"hd": Fraction(2, 3)}),
    })


def numbers_in(answer):
    if isinstance(answer, (list, tuple)):
        return [number for part in answer for number in numbers_in(part)]
    return [answer] if isinstance(answer, int) else []


def spoil(answer):
    for found in lists_in(answer):
        found.append("more")
        found.reverse()
        found.clear()


class AskersOwn(unittest.TestCase):

    def test_the_book_of_many_lists(self):
        book = many_lists()
        for lists in (fewest(book), spared(book), rules(book, "ann"), agreeing(book)):
            self.assertGreaterEqual(len([found for found in lists if found]), 2, lists)

    def test_changing_what_was_told_changes_no_later_answer(self):
        for book in [many_lists()] + some_books():
            before = answers(book)
            facts = told(book)
            for call, handed in calls(book):
                spoil(asked(call, book, *handed))
            self.assertEqual(answers(book), before)
            self.assertEqual(told(book), facts)

    def test_the_same_asked_again_is_told_the_same(self):
        for book in some_books():
            facts = told(book)
            before = answers(book)
            self.assertEqual(told(book), facts)
            self.assertEqual(answers(book), before)

    def test_no_list_stands_at_two_places(self):
        for book in [many_lists()] + some_books():
            for call, handed in calls(book):
                answer = asked(call, book, *handed)
                places = [id(found) for found in lists_in(answer)]
                self.assertEqual(len(set(places)), len(places), call)

    def test_no_list_that_was_handed_in_is_told(self):
        for book in some_books():
            for call, handed in calls(book):
                places = {id(found) for found in lists_in(asked(call, book, *handed))}
                self.assertEqual(places & {id(found) for found in lists_in(handed)}, set())

    def test_truths_are_told_by_the_lookers_alone(self):
        for book in [many_lists()] + some_books():
            for call, handed in calls(book):
                answer = asked(call, book, *handed)
                if call.__name__ in ("agrees", "are_steps", "is_shut", "are_prices") and type(answer) is not tuple:
                    self.assertIs(type(answer), bool)
                else:
                    self.assertNotIn(bool, [type(number) for number in numbers_in(answer)])

    def test_later_deeds_change_nothing_that_was_told(self):
        book = many_lists()
        before = answers(book)
        kept = copy.deepcopy(before)
        book.sale("ha", "hb", "hc", (1, 2))
        book.things("hb", 100)
        book.house("hf", "ha", 1, 2, 3)
        book.person("bob")
        self.assertEqual(before, kept)
        self.assertNotEqual(answers(book), kept)

    def test_the_group_of_a_refusal_stays(self):
        book = made(["ann"], {"ha": (0, 0, 0, {"ha": 1})})
        with self.assertRaises(Whole) as caught:
            fewest(book)
        book.house("hb", "ha", 0, 0, 0)
        self.assertEqual(caught.exception.group, ["ha"])
        self.assertEqual(whole_group(book), ["ha", "hb"])


class HandedIn(unittest.TestCase):

    def test_what_is_handed_in_stays_as_it_was(self):
        for book in [many_lists()] + some_books():
            for call, handed in calls(book):
                kept = copy.deepcopy(handed)
                asked(call, book, *handed)
                self.assertEqual(handed, kept, call)

    def test_who_handed_it_in_may_change_it_behind(self):
        book = many_lists()
        before = answers(book)
        for call, handed in calls(book):
            asked(call, book, *handed)
            spoil(handed)
        self.assertEqual(answers(book), before)

    def test_one_list_handed_in_at_two_places(self):
        book = made(["ann"], {"ha": (0, 0, 0, {}), "hb": (0, 0, 0, {})})
        voters = ["ann"]
        self.assertIs(are_steps(book, "ann", [("ha", voters), ("hb", voters)]), True)
        self.assertEqual(voters, ["ann"])
        lot = ["hb", "ha"]
        self.assertIs(is_shut(book, "ann", lot), True)
        self.assertEqual(lot, ["hb", "ha"])


class BehindDeeds(unittest.TestCase):

    def chance_deed(self, chance, book):
        names = PERSONS + HOUSES[:5] + ("", "nobody")
        house = chance.choice((book.houses() or ["ha"]) * 6 + list(names))
        number = chance.randint(-20, 20)
        share = ratio(chance.choice((1, HALF, Fraction(chance.randint(-1, 8), chance.randint(1, 8)))))
        holders = [holder for holder, part in book.shares(house)] if house in book.houses() else []
        one = chance.choice(holders * 6 + list(names))
        return chance.choice((
            (book.person, chance.choice(names)),
            (book.house, chance.choice(names), chance.choice(names), number, chance.randint(-20, 20), abs(number) - 2),
            (book.sale, house, one, chance.choice(names), share),
            (book.sale, house, one, chance.choice(names), share),
            (book.things, house, number), (book.mark, house, number), (book.loss, house, number),
        ))

    def do(self, row):
        try:
            row[0](*row[1:])
        except OwnError:
            return 1
        return 0

    def keep(self, kept, book):
        # What is told now, beside a copy that nothing can change.
        before = answers(book)
        kept.append((before, copy.deepcopy(before)))
        return before

    def check_anew(self, kept, book):
        before = self.keep(kept, book)
        for other in (anew(book), read(shown(book))):
            self.assertEqual(told(other), told(book))
            self.assertEqual(self.keep(kept, other), before)

    def test_as_one_made_anew_of_what_stands(self):
        chance = random.Random(21)
        refused = 0
        whole = 0
        for _ in range(12):
            kept = []
            book = made(["ann"], {"ha": (5, 3, 2, {"ha": HALF}), "hb": (1, 2, 3, {"ha": HALF})})
            for _ in range(40):
                refused += self.do(self.chance_deed(chance, book))
                if chance.random() < 0.2:
                    self.check_anew(kept, book)
                if chance.random() < 0.1:
                    self.check_twin(chance, kept, book)
            self.check_anew(kept, book)
            whole += whole_group(book) != []
            for found, copied in kept:
                self.assertEqual(found, copied)
        self.assertGreater(refused, 50)
        self.assertGreater(whole, 0)

    def check_twin(self, chance, kept, book):
        before = self.keep(kept, book)
        twin = book.twin()
        self.assertEqual(answers(twin), before)
        for _ in range(10):
            self.do(self.chance_deed(chance, twin))
        self.check_anew(kept, twin)
        self.assertEqual(answers(book), before)
        behind = answers(twin)
        for _ in range(5):
            self.do(self.chance_deed(chance, book))
        self.assertEqual(answers(twin), behind)

    def test_deeds_on_a_book_that_was_read(self):
        chance = random.Random(23)
        for book in some_books():
            other = read(shown(book))
            for _ in range(15):
                row = self.chance_deed(chance, book)
                self.assertEqual(asked(*row), asked(getattr(other, row[0].__name__), *row[1:]))
            self.assertEqual(told(other), told(book))
            self.assertEqual(answers(other), answers(book))

    def test_a_refused_deed_changes_no_answer(self):
        book = many_lists()
        before = answers(book)
        deeds = (
            (book.person, "ha"), (book.person, "Ann"), (book.house, "hf", "nobody", 1, 2, 3),
            (book.house, "hf", "ann", 1, 2, -3), (book.sale, "ha", "ann", "hb", (2, 3)),
            (book.sale, "ha", "hb", "ha", (0, 1)), (book.sale, "ha", "hb", "nobody", (1, 3)),
            (book.loss, "ha", -1), (book.things, "ann", 3), (book.mark, "zz", 3),
        )
        for row in deeds:
            self.assertEqual(self.do(row), 1)
            self.assertEqual(answers(book), before)

    def test_each_kind_of_deed_counts_at_once(self):
        book = many_lists()
        for row in (
            (book.things, "ha", 30), (book.mark, "hc", 30), (book.loss, "ha", 100),
            (book.sale, "ha", "hb", "hd", (2, 3)), (book.house, "hf", "ha", 1, 2, 3),
            (book.sale, "hf", "ha", "hf", (1, 1)), (book.sale, "hf", "hf", "ann", (1, 2)),
        ):
            before = answers(book)
            self.assertEqual(self.do(row), 0)
            self.assertTrue(answers(book) != before, row)
            self.assertEqual(answers(book), answers(anew(book)))


if __name__ == "__main__":
    unittest.main()
