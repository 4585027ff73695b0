"""Books shown as texts, and which texts are read to a book."""

import random
import re
import unittest
from fractions import Fraction
from math import gcd

from helper import HALF, HOUSES, PERSONS, THIRD, answers, anew, asked, chance_books, made, told
from wholeowners.books import Book
from wholeowners.errors import NoText, OwnError
from wholeowners.texts import read, shown

LONG = 10 ** 29 + 319
REFUSED = ("NoText", None)
NAME = "([a-z]{1,8})"
NUMBER = "(0|-?[1-9][0-9]{0,399})"
LINES = (
    re.compile(f"person {NAME}"),
    re.compile(f"house {NAME} {NUMBER} {NUMBER} {NUMBER}"),
    re.compile(f"share {NAME} {NAME} {NUMBER}(?:/{NUMBER})?"),
)
SAMPLE = """person ann
person bob
house ha 10 -3 0
house hb -20 0 7
share ha ann 1/2
share ha hb 1/2
share hb bob 2/3
share hb ha 1/3"""


def sample():
    # A book of which no line can be left out.
    rows = {"ha": (10, -3, 0, {"hb": HALF}), "hb": (-20, 0, 7, {"ha": THIRD, "bob": 2 * THIRD})}
    return made(["ann", "bob"], rows)


def found_lines(text):
    # For each kind the rows of words that its lines have, or None where a line is none, or stands ahead of its kind.
    rows = ([], [], [])
    least = 0
    for line in text.split("\n") if text else []:
        kinds = [kind for kind, form in enumerate(LINES) if form.fullmatch(line)]
        if not kinds or kinds[0] < least:
            return None
        least = kinds[0]
        rows[least].append(LINES[least].fullmatch(line).groups())
    return rows


def are_in_order(keys):
    return keys == sorted(set(keys))


def is_whole(shares):
    fractions = [Fraction(int(top), int(bottom or 1)) for _, _, top, bottom in shares]
    written = [(fraction.numerator, fraction.denominator) for fraction in fractions]
    as_told = [(int(top), int(bottom)) if bottom else (int(top), 1) for _, _, top, bottom in shares]
    return written == as_told and min(fractions) > 0 and sum(fractions) == 1


def shows_a_book(text):
    # What the document says of a text, reckoned plainly.
    rows = found_lines(text)
    if rows is None:
        return False
    persons = [row[0] for row in rows[0]]
    houses = [row[0] for row in rows[1]]
    if not are_in_order(persons) or not are_in_order(houses) or set(persons) & set(houses):
        return False
    if len(persons) > 6 or len(houses) > 8 or (houses and not persons):
        return False
    if any(int(row[3]) < 0 for row in rows[1]) or not are_in_order([row[:2] for row in rows[2]]):
        return False
    if any(row[0] not in houses or row[1] not in persons + houses for row in rows[2]):
        return False
    if any(row[3] in ("0", "1") or (row[3] or "").startswith("-") for row in rows[2]):
        return False
    by_house = [[row for row in rows[2] if row[0] == house] for house in houses]
    return all(shares and is_whole(shares) for shares in by_house)


def shown_plainly(book):
    lines = [f"person {person}" for person in book.persons()]
    lines += ["house {} {} {} {}".format(house, *book.of(house)) for house in book.houses()]
    for house in book.houses():
        for holder, share in book.shares(house):
            lines.append(f"share {house} {holder} {Fraction(*share)}")
    return "\n".join(lines)


class TextTest(unittest.TestCase):

    def refused(self, *lines):
        text = "\n".join(lines)
        with self.assertRaises(OwnError) as caught:
            read(text)
        self.assertIs(type(caught.exception), NoText, text)

    def is_read(self, *lines):
        text = "\n".join(lines)
        book = read(text)
        self.assertIs(type(book), Book)
        self.assertEqual(shown(book), text)
        return book


class Shown(TextTest):

    def test_the_empty_book(self):
        self.assertEqual(shown(Book()), "")

    def test_persons_alone(self):
        self.assertEqual(shown(made(["ann"], {})), "person ann")
        self.assertEqual(shown(made(["bob", "ann", "z", "ab"], {})), "person ab\nperson ann\nperson bob\nperson z")

    def test_a_share_of_one(self):
        book = made(["ann", "bob"], {"ha": (1, 2, 3, {})})
        self.assertEqual(shown(book), "person ann\nperson bob\nhouse ha 1 2 3\nshare ha ann 1")
        book.sale("ha", "ann", "ha", (1, 1))
        self.assertEqual(shown(book), "person ann\nperson bob\nhouse ha 1 2 3\nshare ha ha 1")

    def test_houses_and_fractions(self):
        self.assertEqual(shown(sample()), SAMPLE)

    def test_numbers_below_nothing_and_long(self):
        book = made(["ann"], {"ha": (-LONG, LONG, LONG, {}), "hb": (LONG, -LONG, 0, {"ha": Fraction(LONG - 1, LONG)})})
        self.assertEqual(shown(book).split("\n"), [
            "person ann",
            "house ha -100000000000000000000000000319 100000000000000000000000000319 100000000000000000000000000319",
            "house hb 100000000000000000000000000319 -100000000000000000000000000319 0",
            "share ha ann 1",
            "share hb ann 1/100000000000000000000000000319",
            "share hb ha 100000000000000000000000000318/100000000000000000000000000319",
        ])

    def test_holders_by_names(self):
        book = made(["b", "zoe"], {"yard": (0, 0, 0, {"a": HALF, "zoe": THIRD}), "a": (0, 0, 0, {"yard": HALF})})
        self.assertEqual(shown(book).split("\n"), [
            "person b", "person zoe", "house a 0 0 0", "house yard 0 0 0",
            "share a b 1/2", "share a yard 1/2", "share yard a 1/2", "share yard b 1/6", "share yard zoe 1/3",
        ])

    def test_a_holder_with_none_is_not_shown(self):
        book = sample()
        book.sale("ha", "hb", "ann", (1, 2))
        self.assertEqual(shown(book), SAMPLE.replace("share ha ann 1/2\nshare ha hb 1/2", "share ha ann 1"))

    def test_asked_again_and_of_a_twin(self):
        for book in [sample()] + chance_books(random.Random(50), 40, bottom=50, reach=10 ** 29):
            text = shown(book)
            self.assertIs(type(text), str)
            self.assertEqual(text, shown_plainly(book))
            self.assertEqual(shown(book), text)
            self.assertEqual(shown(book.twin()), text)
            self.assertEqual(shown(anew(book)), text)

    def test_numbers_of_400_figures(self):
        most = 10 ** 400 - 1
        book = made(["ann", "bob"], {"ha": (-most, most, most, {"bob": Fraction(10 ** 399, most)})})
        self.assertEqual(shown(book), shown_plainly(book))
        self.assertEqual(told(read(shown(book))), told(book))

    def test_arguments_have_their_names(self):
        self.assertEqual(shown(book=sample()), SAMPLE)
        self.assertEqual(told(read(text=SAMPLE)), told(sample()))


class Read(TextTest):

    def deeds(self, book):
        # Each of them once done and once refused.
        rows = (
            ("person", "cid"), ("person", "ann"), ("person", "Cid"), ("house", "hc", "cid", 1, 2, 3),
            ("house", "hc", "cid", 1, 2, 3), ("sale", "ha", "ann", "hc", (1, 3)), ("sale", "ha", "ann", "hc", (1, 3)),
            ("sale", "hb", "ha", "hb", (1, 3)), ("things", "ha", -5), ("mark", "hb", 6), ("loss", "hb", 8),
            ("loss", "hb", -1), ("things", "ann", 0), ("sale", "hd", "ann", "ha", (1, 9)),
        )
        told = []
        for deed, *handed in rows:
            told.append(asked(getattr(book, deed), *handed))
            told.append(shown(book))
        return told

    def test_the_empty_text(self):
        self.assertEqual(told(read("")), ([], [], []))
        self.assertIs(type(read("")), Book)

    def test_the_book_that_is_shown(self):
        for book in [Book(), made(["bob", "ann"], {}), sample()] + chance_books(random.Random(51), 60, bottom=40):
            again = self.is_read(shown(book))
            self.assertEqual(told(again), told(book))
            self.assertEqual(answers(again), answers(book))

    def test_deeds_go_on_as_in_the_first(self):
        book = sample()
        self.assertEqual(self.deeds(read(shown(book))), self.deeds(book))
        again = read(shown(book))
        self.assertEqual(told(again), told(book))
        self.assertEqual(self.deeds(again.twin()), self.deeds(book))

    def test_two_books_read_of_one_text_share_nothing(self):
        one, other = read(SAMPLE), read(SAMPLE)
        self.deeds(one)
        self.assertEqual(shown(other), SAMPLE)
        self.assertNotEqual(shown(one), SAMPLE)
        self.deeds(other)
        self.assertEqual(shown(one), shown(other))
        self.assertEqual(shown(read(SAMPLE)), SAMPLE)

    def test_books_in_which_a_group_owns_itself_whole(self):
        self.is_read("person ann", "house ha 1 2 3", "share ha ha 1")
        self.is_read("person ann", "house ha 1 2 3", "house hb 1 2 3", "share ha hb 1", "share hb ha 1")

    def test_the_first_person_may_hold_nothing(self):
        self.is_read("person ann", "person bob", "house ha 1 2 3", "share ha bob 1")
        self.is_read("person bob", "house ann 1 2 3", "share ann ann 1/2", "share ann bob 1/2")

    def test_six_persons_and_eight_houses(self):
        persons = [f"person p{letter}" for letter in "abcdefg"]
        houses = [f"house h{letter} 0 0 0" for letter in "abcdefghi"]
        shares = [f"share h{letter} pa 1" for letter in "abcdefghi"]
        self.is_read(*persons[:6], *houses[:8], *shares[:8])
        self.refused(*persons, *houses[:8], *shares[:8])
        self.refused(*persons[:6], *houses, *shares)
        self.refused(*persons)
        self.refused(*persons[:1], *houses, *shares)


class Lines(TextTest):

    def test_each_left_out(self):
        lines = SAMPLE.split("\n")
        self.is_read(*lines)
        for place in range(len(lines)):
            self.refused(*lines[:place], *lines[place + 1:])

    def test_a_person_that_holds_nothing_left_out(self):
        self.is_read("person ann", "person bob", "house ha 1 2 3", "share ha ann 1")
        self.is_read("person ann", "house ha 1 2 3", "share ha ann 1")

    def test_each_put_in_twice(self):
        lines = SAMPLE.split("\n")
        for line in lines:
            for place in range(len(lines) + 1):
                self.refused(*lines[:place], line, *lines[place:])

    def test_each_put_elsewhere(self):
        lines = SAMPLE.split("\n")
        for line in lines:
            rest = [other for other in lines if other != line]
            for place in range(len(lines)):
                moved = rest[:place] + [line] + rest[place:]
                if moved != lines:
                    self.refused(*moved)
        for one, other in (("ann", "bob"), ("ann", "an"), ("bb", "b")):
            self.refused(f"person {max(one, other)}", f"person {min(one, other)}")
            self.is_read(f"person {min(one, other)}", f"person {max(one, other)}")

    def test_an_empty_line(self):
        lines = SAMPLE.split("\n")
        for place in range(len(lines) + 1):
            self.refused(*lines[:place], "", *lines[place:])
        for text in ("\n", "\n\n", "person ann\n", "\nperson ann", "person ann\n\nperson bob"):
            self.refused(text)

    def test_blanks(self):
        for place, sign in enumerate(SAMPLE):
            if sign == " ":
                self.refused(SAMPLE[:place] + " " + SAMPLE[place:])
                self.refused(SAMPLE[:place] + SAMPLE[place + 1:])
                self.refused(SAMPLE[:place] + "\t" + SAMPLE[place + 1:])
                self.refused(SAMPLE[:place] + "\n" + SAMPLE[place + 1:])
        lines = SAMPLE.split("\n")
        for place, line in enumerate(lines):
            for other in (" " + line, line + " ", line + "\t", line + "\r", line + " 0", line + " ann"):
                self.refused(*lines[:place], other, *lines[place + 1:])
        for text in (" ", "  ", " \n", "\t"):
            self.refused(text)

    def test_other_words(self):
        lines = SAMPLE.split("\n")
        for place, line in enumerate(lines):
            words = line.split(" ")
            for word in ("", "Person", "PERSON", "persons", "house", "share", "person", "thing"):
                if word != words[0]:
                    self.refused(*lines[:place], " ".join([word] + words[1:]), *lines[place + 1:])
            for many in range(len(words)):
                self.refused(*lines[:place], " ".join(words[:many]), *lines[place + 1:])
        for text in ("person", "house", "share", "ann", "~", "person ann bob", "person ann;person bob", "a" * 10000):
            self.refused(text)


class Names(TextTest):

    def test_names_that_are_none(self):
        for name in ("", "Ann", "abcdefghi", "a1", "a-b", "-", "0", "1/2", "~", "a" * 9000):
            self.refused(f"person {name}")
            self.refused("person ann", f"house {name} 1 2 3", f"share {name} ann 1")
        self.is_read("person abcdefgh", "house zzzzzzzz 1 2 3", "share zzzzzzzz abcdefgh 1")

    def test_names_twice(self):
        self.refused("person ann", "person ann")
        self.refused("person ann", "house ann 1 2 3", "share ann ann 1")
        self.refused("person ann", "house ha 1 2 3", "house ha 1 2 3", "share ha ann 1")
        self.refused("person ann", "house ha 1 2 3", "house ha 1 2 3", "share ha ann 1", "share ha ann 1")
        self.refused("person ann", "house ha 1 2 3", "share ha ann 1/2", "share ha ann 1/2")

    def test_names_of_no_holder(self):
        for name in ("bob", "hb", "", "Ann", "h"):
            self.refused("person ann", "house ha 1 2 3", f"share ha {name} 1")
            self.refused("person ann", "house ha 1 2 3", "share ha ann 1/2", f"share ha {name} 1/2")
            self.refused("person ann", "house ha 1 2 3", f"share {name} ann 1")
            self.refused("person ann", "house ha 1 2 3", "share ha ann 1", f"share {name} ann 1")

    def test_persons_and_houses_exchanged(self):
        self.refused("person ann", "house ha 1 2 3", "share ann ha 1")
        self.refused("person ann", "house ha 1 2 3", "share ann ann 1")
        self.refused("person ann", "house ha 1 2 3", "share ha ann 1", "share ann ha 1")
        self.refused("person ha", "house ann 1 2 3", "share ha ann 1")
        self.refused("house ha 1 2 3", "person ann", "share ha ann 1")

    def test_houses_without_a_person(self):
        self.refused("house ha 1 2 3", "share ha ha 1")
        self.refused("house ha 1 2 3", "house hb 1 2 3", "share ha hb 1", "share hb ha 1")
        self.refused("house ha 1 2 3")
        self.refused("share ha ha 1")

    def test_houses_without_shares(self):
        self.refused("person ann", "house ha 1 2 3")
        self.refused("person ann", "house ha 1 2 3", "house hb 1 2 3", "share hb ann 1")


class Numbers(TextTest):

    def one(self, *facts, share="1"):
        facts = " ".join(facts)
        return ("person ann", f"house ha {facts}", f"share ha ann {share}")

    def two(self, share, rest):
        return ("person ann", "person bob", "house ha 1 2 3", f"share ha ann {share}", f"share ha bob {rest}")

    def test_numbers_written_otherwise(self):
        self.is_read(*self.one("5", "-5", "0"))
        others = (
            "+5", "05", "005", "-05", "-0", "+0", "00", "--5", "-", "", "5.0", "5.", "5e0", "0x5", "5_0", "1,000",
            "five", "5-", "+-5", "5/1", "10/2", "(5)", "V", "\u0665", "\uff15", "\u00b2", "True", "None", "-+5", "0" * 400,
        )
        for word in others:
            self.refused(*self.one(word, "0", "0"))
            self.refused(*self.one("0", word, "0"))
            self.refused(*self.one("0", "0", word))

    def test_shares_written_otherwise(self):
        self.is_read(*self.one("0", "0", "0"))
        for word in ("1/1", "2/2", "+1", "01", "1/01", "-1/-1", "1.0", "", "/", "1/", "/1", "1/1/1", "100", "-1"):
            self.refused(*self.one("0", "0", "0", share=word))

    def test_fractions_written_otherwise(self):
        self.is_read(*self.two("1/2", "1/2"))
        others = ("2/4", "+1/2", "1/+2", "01/2", "1/02", "-1/-2", "1 /2", "1/ 2", "1//2", "1/2/1", "0.5", ".5", "1\\2")
        for word in others + ("1/2.0", "1:2", "5/10", "\u00bd", "3/6", "1/2/", "/1/2", "500/1000"):
            self.refused(*self.two(word, "1/2"))
            self.refused(*self.two("1/2", word))
            self.refused(*self.two(word, word))

    def test_shares_of_nothing_below_and_above_one(self):
        rows = (("1", "0"), ("1", "0/1"), ("1", "0/2"), ("1", "-0"), ("1", "0/0"), ("3/2", "-1/2"), ("2", "-1"))
        for share, rest in rows + (("4/3", "-1/3"), ("1", "1/0"), ("3/2", "1/-2"), ("5/2", "-3/2"), ("1", "")):
            self.refused(*self.two(share, rest))
            self.refused(*self.two(rest, share))

    def test_shares_that_do_not_come_to_one(self):
        rows = (("1/2", "1/3"), ("1/2", "2/3"), ("1", "1"), ("1/2", "1"), ("1/2", "499999/1000000"), ("2/3", "2/3"))
        for share, rest in rows:
            self.refused(*self.two(share, rest))
            self.refused(*self.two(rest, share))
        for share in ("1/2", "2", "3/2", "999999/1000000"):
            self.refused(*self.one("0", "0", "0", share=share))
            self.refused("person ann", "person bob", "house ha 0 0 0", f"share ha bob {share}")
        self.refused(*self.two("1/2", "1/2"), "share ha ha 1/2")
        self.is_read(*self.two("1/2", "1/4"), "share ha ha 1/4")

    def test_a_loss_below_nothing(self):
        self.is_read(*self.one("-1", "-1", "0"))
        for loss in ("-1", "-30", "-" + "9" * 400):
            self.refused(*self.one("1", "1", loss))

    def test_400_and_401_figures(self):
        most = "9" * 400
        self.is_read(*self.one(most, most, most))
        self.is_read(*self.one("-" + most, "-" + most, "1"))
        for word in ("1" + "0" * 400, "-1" + "0" * 400, "9" * 401, "9" * 4301, "-" + "9" * 9000, "0" * 401 + "5"):
            self.refused(*self.one(word, "0", "0"))
            self.refused(*self.one("0", word, "0"))
            self.refused(*self.one("0", "0", word))

    def test_shares_of_400_and_401_figures(self):
        bottom = 10 ** 400 - 1
        for top in (1, 10 ** 399, 10 ** 200):
            self.assertEqual(gcd(top, bottom), 1)
            self.is_read(*self.two(f"{top}/{bottom}", f"{bottom - top}/{bottom}"))
            self.is_read(*self.two(f"{bottom - top}/{bottom}", f"{top}/{bottom}"))
        bottom = 10 ** 400
        for top in (1, 10 ** 399 + 1, bottom - 1):
            self.refused(*self.two(f"{top}/{bottom}", f"{bottom - top}/{bottom}"))
        self.refused(*self.one("0", "0", "0", share="1" * 401))
        self.refused(*self.one("0", "0", "0", share="9" * 5000 + "/" + "7" * 4000))

    def test_what_is_left_may_be_too_long_to_write_out(self):
        # What these leave of the house has more figures than Python writes out.
        persons = PERSONS + ("eve", "fay")
        houses = HOUSES + ("hg", "hh")
        bottoms = [10 ** 399 + 2 * place + 1 for place in range(12)]
        shares = [f"share ha {holder} 1/{bottom}" for holder, bottom in zip(persons[1:] + houses, bottoms)]
        left = 1 - sum(Fraction(1, bottom) for bottom in bottoms)
        self.assertGreater(left.denominator, 10 ** 4300)
        rest = [f"share {house} ann 1" for house in houses[1:]]
        head = [f"person {name}" for name in persons] + [f"house {name} 0 0 0" for name in houses]
        self.refused(*head, *shares, *rest)
        self.refused(*head, "share ha ann 1/2", *shares, *rest)
        self.refused(*head, "share ha ann 1", *shares, *rest)

    def test_a_share_of_more_figures_than_are_read(self):
        # All others have few figures, but what is left of the house has more than 400.
        bottoms = [10 ** 149 + 1, 10 ** 150 + 1, 10 ** 151 + 1]
        left = 1 - sum(Fraction(1, bottom) for bottom in bottoms)
        self.assertGreater(left.denominator, 10 ** 400)
        rest = [f"share ha {holder} 1/{bottom}" for holder, bottom in zip(("bob", "cid", "dan"), bottoms)]
        persons = [f"person {person}" for person in PERSONS]
        self.refused(*persons, "house ha 0 0 0", f"share ha ann {left}", *rest)
        left = 1 - sum(Fraction(1, bottom) for bottom in bottoms[:2])
        self.is_read(*persons, "house ha 0 0 0", f"share ha ann {left}", *rest[:2])


class ReckonedAnew(TextTest):

    def test_what_is_shown_shows_a_book(self):
        for book in [Book(), sample()] + chance_books(random.Random(52), 40, bottom=30):
            self.assertTrue(shows_a_book(shown(book)))

    def check(self, text):
        good = shows_a_book(text)
        if good:
            self.is_read(text)
        else:
            self.assertEqual(asked(read, text), REFUSED, text)
        return good

    def changed_line(self, chance, lines):
        words = chance.choice(lines).split(" ")
        place = chance.randrange(len(words))
        words[place] = chance.choice(["0", "1", "-1", "1/2", "ann", "ha", "2/3", "person", *" ".join(lines).split(" ")])
        return " ".join(words)

    def changed(self, chance, text):
        lines = text.split("\n")
        place = chance.randrange(len(lines))
        sign = chance.randrange(len(text) + 1)
        more = chance.choice(" \n/-0123abh~")
        return chance.choice((
            "\n".join(lines[:place] + lines[place + 1:]),
            "\n".join(lines[:place] + [chance.choice(lines)] + lines[place:]),
            "\n".join(lines[:place] + [self.changed_line(chance, lines)] + lines[place + 1:]),
            "\n".join(chance.sample(lines, len(lines))),
            text[:sign] + more + text[sign:],
            text[:sign] + text[sign + 1:],
            text[:sign] + more + text[sign + 1:],
        ))

    def test_changed_texts(self):
        chance = random.Random(53)
        seen = {True: 0, False: 0}
        for book in [sample()] + chance_books(chance, 60, most_houses=3, bottom=3, reach=3):
            for _ in range(60):
                text = self.changed(chance, shown(book))
                for _ in range(chance.choice((0, 0, 1))):
                    text = self.changed(chance, text)
                seen[self.check(text)] += 1
        self.assertGreater(min(seen.values()), 100, seen)

    def test_texts_of_chance_signs(self):
        chance = random.Random(54)
        words = ("person", "house", "share", "ann", "ha", "1", "0", "1/2", " ", "\n", "\n", "~", "-")
        for _ in range(400):
            self.check("".join(chance.choice(words) for _ in range(chance.randint(0, 12))))
            self.check("".join(chance.choice(" ~\nabc019/-") for _ in range(chance.randint(0, 9))))


if __name__ == "__main__":
    unittest.main()
