"""The book: persons, houses with their things, marks and losses, and who holds their shares."""

from wholeowners.errors import NoHolder, NoHouse, NoLoss, NoName, NoShare, TooMany, Twice
from wholeowners.ratios import ONE, ZERO, is_above, minus, plus

LONGEST_NAME = 8
MOST_PERSONS = 6
MOST_HOUSES = 8


def is_name(text):
    return 1 <= len(text) <= LONGEST_NAME and all(["a" <= letter <= "z" for letter in text])


def need_loss(number):
    if number < 0:
        # The words show no number, as Python does not write out very long ones.
        raise NoLoss("a loss is 0 or more")


class Book:

    def __init__(self):
        self.people = {}
        self.things_of = {}
        self.mark_of = {}
        self.loss_of = {}
        # For each house its holders' shares; a holder whose share comes to 0 is taken out.
        self.held_of = {}

    def is_house(self, name):
        return name in self.held_of

    def is_holder(self, name):
        return name in self.people or self.is_house(name)

    def need_house(self, name):
        if not self.is_house(name):
            raise NoHouse(f"no house is called {name!r}")

    def need_holder(self, name):
        if not self.is_holder(name):
            raise NoHolder(f"no holder is called {name!r}")

    def need_new_name(self, name):
        if not is_name(name):
            raise NoName(f"a name is one to eight small letters, not {name!r}")
        if self.is_holder(name):
            raise Twice(f"there is a holder called {name!r}")

    def person(self, name):
        self.need_new_name(name)
        if len(self.people) >= MOST_PERSONS:
            raise TooMany("there is no room for a person more")
        self.people[name] = True

    def house(self, name, owner, things, mark, loss):
        self.need_new_name(name)
        self.need_holder(owner)
        need_loss(loss)
        if len(self.held_of) >= MOST_HOUSES:
            raise TooMany("there is no room for a house more")
        self.things_of[name] = things
        self.mark_of[name] = mark
        self.loss_of[name] = loss
        self.held_of[name] = {owner: ONE}

    def sale(self, house, one, other, share):
        self.need_house(house)
        self.need_holder(one)
        self.need_holder(other)
        held = self.held_of[house]
        if not is_above(share, ZERO) or is_above(share, held.get(one, ZERO)):
            raise NoShare(f"{one!r} can not sell such a share of {house!r}")
        rest = minus(held[one], share)
        if rest == ZERO:
            held.pop(one)
        else:
            held[one] = rest
        # Looked up only now, as one and other may be the same.
        held[other] = plus(held.get(other, ZERO), share)

    def things(self, house, number):
        self.need_house(house)
        self.things_of[house] = number

    def mark(self, house, number):
        self.need_house(house)
        self.mark_of[house] = number

    def loss(self, house, number):
        self.need_house(house)
        need_loss(number)
        self.loss_of[house] = number

    def persons(self):
        return sorted(self.people)

    def houses(self):
        return sorted(self.held_of)

    def shares(self, house):
        self.need_house(house)
        held = self.held_of[house]
        return [(holder, held[holder]) for holder in sorted(held)]

    def of(self, house):
        self.need_house(house)
        return (self.things_of[house], self.mark_of[house], self.loss_of[house])

    def twin(self):
        book = Book()
        book.people = dict(self.people)
        book.things_of = dict(self.things_of)
        book.mark_of = dict(self.mark_of)
        book.loss_of = dict(self.loss_of)
        for house in self.houses():
            book.held_of[house] = dict(self.held_of[house])
        return book
