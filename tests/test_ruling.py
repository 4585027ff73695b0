"""What a holder rules, round by round, who rules a house, and the lookers of steps and of shut lots."""

import random
import unittest
from fractions import Fraction
from itertools import permutations

from helper import (
    HOUSES, NO_NAMES, chance_books, flat, hold_more_than_half, is_shut_lot, lots_of, made, ruled_lot,
)
from wholeowners.books import Book
from wholeowners.errors import NoHolder, NoHouse, OwnError
from wholeowners.ruling import are_steps, is_shut, ruler, rules, self_ruled

HALF = Fraction(1, 2)
SLIVER = Fraction(1, 10 ** 29)


def fifths(**tops):
    return (0, 0, 0, {holder: Fraction(top, 5) for holder, top in tops.items()})


def chain():
    # bob rules hb at once, hb helps him to ha and hd, and these to hc.
    return made(["ann", "bob"], {
        "ha": fifths(bob=1, hb=2),
        "hb": fifths(bob=3),
        "hc": fifths(ha=1, hb=1, hd=1),
        "hd": fifths(hb=3, hd=2),
        "he": fifths(bob=2, hf=3),
        "hf": fifths(he=2),
    })


def self_rulers():
    # ha around hb, hc by itself; hd holds of itself too little.
    return made(["ann"], {"ha": fifths(hb=3), "hb": fifths(ha=3), "hc": fifths(hc=3), "hd": fifths(hd=2, hc=1)})


def halves():
    return made(["ann", "bob"], {"ha": (0, 0, 0, {"bob": HALF}), "hb": (0, 0, 0, {"hb": HALF, "ha": HALF})})


class RulingTest(unittest.TestCase):

    def refused(self, kind, call, *handed):
        with self.assertRaises(OwnError) as caught:
            call(*handed)
        self.assertIs(type(caught.exception), kind, handed)


class Rules(RulingTest):

    def test_nothing_ruled(self):
        book = made(["ann", "bob"], {})
        self.assertEqual(rules(book, "ann"), [])
        book.house("ha", "ann", 0, 0, 0)
        self.assertEqual(rules(book, "bob"), [])
        self.assertEqual(rules(book, "ha"), [])

    def test_one_round(self):
        book = made(["ann", "bob"], {"hb": fifths(bob=2), "ha": fifths(), "hc": fifths(bob=3)})
        self.assertEqual(rules(book, "ann"), [["ha", "hb"]])
        self.assertEqual(rules(book, "bob"), [["hc"]])

    def test_several_rounds(self):
        book = chain()
        self.assertEqual(rules(book, "bob"), [["hb"], ["ha", "hd"], ["hc"]])
        self.assertEqual(rules(book, "hb"), [["hd"]])
        self.assertEqual(rules(book, "hf"), [["he"]])
        self.assertEqual(rules(book, "ann"), [["hf"], ["he"]])

    def test_a_chain_of_six_rounds(self):
        rows = {one: (0, 0, 0, {other: 1}) for one, other in zip(HOUSES, HOUSES[1:])}
        book = made(["ann"], {**rows, "hf": (0, 0, 0, {})})
        self.assertEqual(rules(book, "ann"), [["hf"], ["he"], ["hd"], ["hc"], ["hb"], ["ha"]])
        self.assertEqual(rules(book, "hd"), [["hc"], ["hb"], ["ha"]])

    def test_a_house_that_rules_itself_around_others(self):
        book = self_rulers()
        self.assertEqual(rules(book, "ha"), [["hb"], ["ha"]])
        self.assertEqual(rules(book, "hb"), [["ha"], ["hb"]])
        self.assertEqual(rules(book, "hc"), [["hc"]])
        self.assertEqual(rules(book, "hd"), [])

    def test_by_half_nobody_rules(self):
        book = halves()
        for holder in ("ann", "bob", "ha", "hb"):
            self.assertEqual(rules(book, holder), [])
        book.sale("ha", "ann", "bob", (1, 10 ** 29))
        self.assertEqual(rules(book, "bob"), [["ha"]])
        self.assertEqual(rules(book, "ann"), [])
        book.sale("hb", "hb", "ha", (1, 10 ** 29))
        self.assertEqual(rules(book, "bob"), [["ha"], ["hb"]])

    def test_half_together_is_too_little(self):
        book = made(["ann", "bob"], {"ha": (0, 0, 0, {}), "hb": (0, 0, 0, {"ha": HALF - SLIVER, "bob": HALF})})
        self.assertEqual(rules(book, "ann"), [["ha"]])
        book.sale("hb", "bob", "ha", (1, 10 ** 29))
        self.assertEqual(rules(book, "ann"), [["ha"], ["hb"]])

    def test_no_holders_shares_count_twice(self):
        # hc rules itself, and its two fifths of hd would be four.
        book = made(["ann"], {"hc": fifths(hc=3), "hd": fifths(hc=2)})
        self.assertEqual(rules(book, "hc"), [["hc"]])
        # ha gets hold of itself around hb, and then its two fifths of hc count but once.
        book = made(["ann"], {"ha": fifths(hb=3), "hb": fifths(ha=3), "hc": fifths(ha=2)})
        self.assertEqual(rules(book, "ha"), [["hb"], ["ha"]])

    def test_each_person_draws_on_what_it_rules_alone(self):
        book = made(["ann", "bob"], {"ha": fifths(bob=3), "hb": fifths(ha=2, bob=1), "hc": fifths(hb=1, ha=2)})
        self.assertEqual(rules(book, "bob"), [["ha"], ["hb"], ["hc"]])
        self.assertEqual(rules(book, "ann"), [])

    def test_no_holder(self):
        for name in NO_NAMES:
            self.refused(NoHolder, rules, chain(), name)
        self.refused(NoHolder, rules, Book(), "ann")

    def test_chance_books(self):
        longest = 0
        for book in chance_books(random.Random(12), 120):
            for holder in book.persons() + book.houses():
                told = rules(book, holder)
                self.check_rounds(book, holder, told)
                self.assertEqual(sorted(flat(told)), ruled_lot(book, holder))
                self.assertTrue(is_shut(book, holder, flat(told)))
                self.assertTrue(are_steps(book, holder, self.steps_of(holder, told)))
                longest = max(longest, len(told))
        self.assertGreaterEqual(longest, 3)

    def check_rounds(self, book, holder, told):
        self.assertIs(type(told), list)
        for place in range(len(told) + 1):
            earlier = flat(told[:place])
            further = [house for house in book.houses() if house not in earlier
                       and hold_more_than_half(book, [holder] + earlier, house)]
            self.assertEqual(further, told[place] if place < len(told) else [])
        self.assertNotIn([], told)

    def steps_of(self, holder, told):
        steps = []
        for place, houses in enumerate(told):
            voters = [holder] + [house for house in flat(told[:place]) if house != holder]
            steps += [(house, list(voters)) for house in houses]
        return steps


class Ruler(RulingTest):

    def test_a_person(self):
        book = chain()
        self.assertEqual([ruler(book, house) for house in HOUSES], ["bob", "bob", "bob", "bob", "ann", "ann"])

    def test_none(self):
        book = halves()
        self.assertIsNone(ruler(book, "ha"))
        self.assertIsNone(ruler(book, "hb"))
        book = made(["ann"], {"ha": (0, 0, 0, {"ha": 1})})
        self.assertIsNone(ruler(book, "ha"))
        for house in ("ha", "hb", "hc"):
            self.assertIsNone(ruler(self_rulers(), house))
        self.assertEqual(ruler(self_rulers(), "hd"), None)

    def test_never_two(self):
        for book in chance_books(random.Random(13), 120):
            for house in book.houses():
                found = [person for person in book.persons() if house in ruled_lot(book, person)]
                self.assertLessEqual(len(found), 1)
                self.assertEqual(ruler(book, house), found[0] if found else None)

    def test_no_house(self):
        for name in NO_NAMES + ("ann", "bob"):
            self.refused(NoHouse, ruler, chain(), name)
        self.refused(NoHouse, ruler, Book(), "ha")


class SelfRuled(RulingTest):

    def test_told_by_names(self):
        self.assertEqual(self_ruled(Book()), [])
        self.assertEqual(self_ruled(halves()), [])
        self.assertEqual(self_ruled(chain()), [])
        self.assertEqual(self_ruled(self_rulers()), ["ha", "hb", "hc"])

    def test_chance_books(self):
        some = 0
        for book in chance_books(random.Random(14), 120):
            found = [house for house in book.houses() if house in ruled_lot(book, house)]
            self.assertEqual(self_ruled(book), found)
            some += found != []
        self.assertGreater(some, 10)


class Steps(RulingTest):

    def test_no_steps(self):
        self.assertIs(are_steps(chain(), "ann", []), True)
        self.assertIs(are_steps(chain(), "ha", []), True)
        self.assertIs(are_steps(made(["ann"], {}), "ann", []), True)

    def test_good_ones(self):
        steps = [("hb", ["bob"]), ("ha", ["bob", "hb"]), ("hd", ["hb"]), ("hc", ["hd", "hb", "ha"])]
        for count in range(5):
            self.assertIs(are_steps(chain(), "bob", steps[:count]), True)
        self.assertIs(are_steps(chain(), "bob", [("hb", ["bob"]), ("hd", ["bob", "hb"])]), True)

    def test_of_a_house_and_to_itself(self):
        self.assertIs(are_steps(self_rulers(), "ha", [("hb", ["ha"]), ("ha", ["hb"])]), True)
        self.assertIs(are_steps(self_rulers(), "ha", [("hb", ["ha"]), ("ha", ["hb", "ha"])]), True)
        self.assertIs(are_steps(self_rulers(), "hc", [("hc", ["hc"])]), True)

    def test_a_voter_twice(self):
        book = made(["ann", "bob"], {"ha": fifths(bob=3), "hb": fifths(bob=2)})
        self.assertIs(are_steps(book, "bob", [("hb", ["bob", "bob"])]), False)
        self.assertIs(are_steps(book, "bob", [("ha", ["bob", "bob"])]), False)
        self.assertIs(are_steps(book, "bob", [("ha", ["bob"])]), True)
        self.assertIs(are_steps(book, "bob", [("ha", ["bob"] * 18)]), False)

    def test_a_voter_that_is_neither_the_holder_nor_an_earlier_house(self):
        book = chain()
        self.assertIs(are_steps(book, "bob", [("ha", ["bob", "hb"])]), False)
        self.assertIs(are_steps(book, "bob", [("ha", ["bob", "hb"]), ("hb", ["bob"])]), False)
        self.assertIs(are_steps(book, "bob", [("hb", ["bob", "ann"])]), False)
        self.assertIs(are_steps(book, "bob", [("hb", ["bob", "hb"])]), False)
        self.assertIs(are_steps(book, "bob", [("hb", ["bob", "nobody"])]), False)
        self.assertIs(are_steps(book, "bob", [("hb", ["bob", "ha"])]), False)
        self.assertIs(are_steps(book, "bob", [("hb", ["bob", ""])]), False)
        # Each step alone would be a holder's of its own.
        self.assertIs(are_steps(book, "bob", [("hb", ["bob"]), ("hf", ["ann"])]), False)

    def test_a_house_that_is_none(self):
        for name in NO_NAMES + ("ann", "bob"):
            self.assertIs(are_steps(chain(), "bob", [(name, ["bob"])]), False)
            self.assertIs(are_steps(chain(), "bob", [(name, [])]), False)
            self.assertIs(are_steps(chain(), "bob", [("hb", ["bob"]), (name, ["bob", "hb"])]), False)
            self.assertIs(are_steps(chain(), "bob", [(name, ["bob"]), ("hb", ["bob"])]), False)

    def test_votes_of_just_half(self):
        book = halves()
        self.assertIs(are_steps(book, "bob", [("ha", ["bob"])]), False)
        book.sale("ha", "ann", "bob", (1, 10 ** 29))
        self.assertIs(are_steps(book, "bob", [("ha", ["bob"])]), True)
        self.assertIs(are_steps(book, "bob", [("ha", ["bob"]), ("hb", ["ha"])]), False)

    def test_too_few_voters(self):
        book = chain()
        self.assertIs(are_steps(book, "bob", [("hb", [])]), False)
        self.assertIs(are_steps(book, "bob", [("hb", ["bob"]), ("ha", ["hb"])]), False)
        self.assertIs(are_steps(book, "bob", [("hb", ["bob"]), ("ha", ["bob"])]), False)
        steps = [("hb", ["bob"]), ("hd", ["hb"]), ("hc", ["hd", "hb"])]
        self.assertIs(are_steps(book, "bob", steps), False)
        self.assertIs(are_steps(book, "bob", steps[:2]), True)

    def test_one_house_in_several_tuples(self):
        steps = [("hb", ["bob"]), ("hb", ["bob"]), ("ha", ["hb", "bob"]), ("hb", ["bob", "ha", "hb"])]
        self.assertIs(are_steps(chain(), "bob", steps), True)
        self.assertIs(are_steps(chain(), "bob", [("hb", ["bob"])] * 13), True)
        self.assertIs(are_steps(chain(), "bob", [("hb", ["bob"]), ("hb", ["hb"])]), False)

    def test_no_holder_ahead_of_all_else(self):
        for name in NO_NAMES:
            for steps in ([], [("hb", ["bob"])], [("nobody", [name, name])], [("hb", [name])]):
                self.refused(NoHolder, are_steps, chain(), name, steps)

    def test_chance_steps(self):
        chance = random.Random(15)
        seen = {True: 0, False: 0}
        for book in chance_books(chance, 120):
            holders = book.persons() + book.houses()
            for _ in range(20):
                holder = chance.choice(holders)
                steps = self.chance_steps(chance, book, holder)
                expected = self.are_good(book, holder, steps)
                self.assertIs(are_steps(book, holder, steps), expected)
                seen[expected] += 1
        self.assertGreater(min(seen.values()), 100)

    def chance_steps(self, chance, book, holder):
        steps = []
        for house in [name for name in ruled_lot(book, holder) for _ in range(2)]:
            known = [holder] + [step[0] for step in steps]
            voters = sorted(set(known)) if chance.random() < 0.9 else known
            steps.append((house if chance.random() < 0.9 else chance.choice(book.houses()), voters))
        return [step for step in steps if chance.random() < 0.8]

    def are_good(self, book, holder, steps):
        return all(
            house in book.houses() and len(set(voters)) == len(voters)
            and set(voters) <= {holder} | {step[0] for step in steps[:place]}
            and hold_more_than_half(book, voters, house)
            for place, (house, voters) in enumerate(steps)
        )


class ShutLots(RulingTest):

    def test_the_empty_list(self):
        self.assertIs(is_shut(made(["ann"], {}), "ann", []), True)
        self.assertIs(is_shut(chain(), "ha", []), True)
        self.assertIs(is_shut(halves(), "bob", []), True)
        self.assertIs(is_shut(chain(), "bob", []), False)

    def test_good_ones_in_any_order(self):
        for lot in permutations(["ha", "hb", "hc", "hd"]):
            self.assertIs(is_shut(chain(), "bob", list(lot)), True)
        self.assertIs(is_shut(chain(), "bob", list(HOUSES)), True)
        self.assertIs(is_shut(self_rulers(), "ha", ["hb", "ha"]), True)
        self.assertIs(is_shut(self_rulers(), "hc", ["hc"]), True)

    def test_one_house_twice(self):
        self.assertIs(is_shut(chain(), "bob", ["ha", "hb", "hc", "hd", "ha"]), False)
        self.assertIs(is_shut(chain(), "ha", ["ha", "ha"]), False)

    def test_a_name_that_is_no_house(self):
        for name in NO_NAMES + ("ann", "bob"):
            self.assertIs(is_shut(chain(), "bob", ["ha", "hb", "hc", "hd", name]), False)
            self.assertIs(is_shut(chain(), "bob", [name] + list(HOUSES)), False)
            self.assertIs(is_shut(halves(), "bob", [name]), False)

    def test_a_house_outside_held_by_more_than_half(self):
        for lot in (["hb"], ["ha", "hb", "hc"], ["ha", "hb", "hd"], ["ha", "hc", "hd"], ["hb", "hc", "hd"]):
            self.assertIs(is_shut(chain(), "bob", lot), False)
        self.assertIs(is_shut(self_rulers(), "ha", ["hb"]), False)
        # What the lot brings along counts, though the holder does not rule it.
        self.assertIs(is_shut(chain(), "he", ["hb"]), False)

    def test_just_half_outside(self):
        self.assertIs(is_shut(halves(), "bob", ["hb"]), True)
        book = halves()
        book.sale("hb", "ha", "bob", (1, 10 ** 29))
        self.assertIs(is_shut(book, "bob", ["ha"]), True)
        book.sale("hb", "hb", "bob", (1, 10 ** 29))
        self.assertIs(is_shut(book, "bob", ["ha"]), False)

    def test_no_holders_shares_count_twice(self):
        book = made(["ann"], {"hc": fifths(hc=3), "hd": fifths(hc=2)})
        self.assertIs(is_shut(book, "hc", ["hc"]), True)

    def test_no_holder_ahead_of_all_else(self):
        for name in NO_NAMES:
            for lot in ([], ["ha"], ["ha", "ha"], ["nobody"], ["ann"], [name]):
                self.refused(NoHolder, is_shut, chain(), name, lot)

    def test_arguments_have_their_names(self):
        book = chain()
        self.assertIs(is_shut(book=book, holder="ha", houses=[]), True)
        self.assertIs(are_steps(book=book, holder="bob", steps=[("hb", ["bob"])]), True)
        self.assertEqual(rules(book=book, holder="hb"), [["hd"]])
        self.assertEqual(ruler(book=book, house="hb"), "bob")
        self.assertEqual(self_ruled(book=book), [])

    def test_against_all_lots(self):
        chance = random.Random(16)
        for book in chance_books(chance, 60):
            for holder in book.persons() + book.houses():
                for lot in lots_of(book.houses()):
                    chance.shuffle(lot)
                    self.assertIs(is_shut(book, holder, lot), is_shut_lot(book, holder, lot))


if __name__ == "__main__":
    unittest.main()
