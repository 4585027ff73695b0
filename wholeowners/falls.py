"""Which houses fall, where each that falls loses something and draws others along."""

from wholeowners.rounds import rounds
from wholeowners.worths import Ways


def left_things(book, house, fallen):
    facts = book.of(house)
    return facts[0] - facts[2] if house in fallen else facts[0]


def below_marks(book, ways, fallen):
    houses = book.houses()
    things = dict([(house, left_things(book, house, fallen)) for house in houses])
    return [house for house in houses if ways.top_by(house, things) < book.of(house)[1] * ways.bottom]


def all_but(book, houses):
    return [house for house in book.houses() if house not in houses]


def fewest(book):
    ways = Ways(book)
    return rounds(lambda earlier: below_marks(book, ways, earlier))


def spared(book):
    ways = Ways(book)
    return rounds(lambda earlier: all_but(book, below_marks(book, ways, all_but(book, earlier))))


def agrees(book, houses):
    return below_marks(book, Ways(book), houses) == sorted(houses)


def lots(houses):
    found = [[]]
    for house in houses:
        found = found + [lot + [house] for lot in found]
    return sorted(found, key=lambda lot: (len(lot), lot))


def agreeing(book):
    ways = Ways(book)
    return [lot for lot in lots(book.houses()) if below_marks(book, ways, lot) == lot]
