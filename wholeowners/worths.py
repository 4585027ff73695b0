"""What the houses are worth, what comes to whom, and which houses own themselves whole."""

from wholeowners.equations import solved
from wholeowners.errors import Whole
from wholeowners.ratios import common_divisor, lowest


def is_held_within(book, house, group):
    return all([holder in group for holder, share in book.shares(house)])


def whole_group(book):
    group = book.houses()
    while True:
        inside = [house for house in group if is_held_within(book, house, group)]
        if inside == group:
            return group
        group = inside


def need_no_whole_group(book):
    group = whole_group(book)
    if group != []:
        raise Whole(group)


def cut(shares):
    # Into equal pieces, so many that each holder has a whole number of them: so all owning is
    # reckoned in whole numbers, and lowest terms are looked for only in what is told.
    pieces = 1
    for holder, share in shares:
        pieces = pieces * (share[1] // common_divisor(pieces, share[1]))
    return dict([(holder, share[0] * (pieces // share[1])) for holder, share in shares])


def all_cut(book):
    return dict([(house, cut(book.shares(house))) for house in book.houses()])


def owning(house, houses, pieces_of):
    # By what one piece of each is worth: all pieces of the house, less those that it holds of
    # each, come to its things.
    row = [-pieces_of[other].get(house, 0) for other in houses]
    row[houses.index(house)] += sum(pieces_of[house].values())
    return row


def agreement(house, houses, pieces_of):
    # The things are 1 in the case where the house alone has a thing, 0 in the others' cases.
    return owning(house, houses, pieces_of) + [1 if other == house else 0 for other in houses]


class Ways:

    def __init__(self, book):
        need_no_whole_group(book)
        houses = book.houses()
        pieces_of = all_cut(book)
        # As no group owns itself whole, every minor along the diagonal of these rows is above 0,
        # and so is the bottom.
        solution = solved([agreement(house, houses, pieces_of) for house in houses])
        self.bottom = solution[1]
        self.top_of = {}
        for place, house in enumerate(houses):
            for holder in book.persons() + houses:
                top = self.bottom if holder == house else 0
                for other, piece in zip(houses, solution[0]):
                    top += pieces_of[other].get(holder, 0) * piece[place]
                self.top_of[(holder, house)] = top

    def top_by(self, holder, things):
        return sum([self.top_of[(holder, house)] * things[house] for house in things])

    def all_by(self, holders, things):
        return [(holder, lowest(self.top_by(holder, things), self.bottom)) for holder in holders]


def own_things(book):
    return dict([(house, book.of(house)[0]) for house in book.houses()])


def worths(book):
    return Ways(book).all_by(book.houses(), own_things(book))


def parts(book):
    return Ways(book).all_by(book.persons(), own_things(book))


def through(book, holder, house):
    ways = Ways(book)
    book.need_holder(holder)
    book.need_house(house)
    return lowest(ways.top_of[(holder, house)], ways.bottom)
