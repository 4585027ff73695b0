"""The least gifts that keep all houses standing, and prices that show that none come to less."""

from wholeowners.equations import solved
from wholeowners.ratios import ONE, ZERO, is_above, lowest, minus, plus, times
from wholeowners.rounds import rounds
from wholeowners.worths import all_cut, need_no_whole_group, owning


def come_to(numbers, tops):
    return sum([number * top for number, top in zip(numbers, tops)])


def column(rows, place):
    return [row[place] for row in rows]


class Needs:

    def __init__(self, book):
        need_no_whole_group(book)
        self.names = book.houses()
        self.facts = [book.of(house) for house in self.names]
        pieces_of = all_cut(book)
        self.pieces = [sum(pieces_of[house].values()) for house in self.names]
        self.rows = [owning(house, self.names, pieces_of) for house in self.names]
        # A column comes to the pieces of its house that persons hold.
        self.columns = [column(self.rows, place) for place in range(len(self.names))]

    def only(self, place):
        return [self.pieces[place] if other == place else 0 for other in range(len(self.names))]

    def tops(self, lifted, equations, fixed):
        # Told with their one bottom. The equations of the lifted hold; all pieces of each other
        # house come to what is fixed of it. These have no place but their own in their rows, so
        # that every minor along the diagonal stays above 0.
        mixed = []
        for place, house in enumerate(self.names):
            mixed.append(equations[place] if house in lifted else self.only(place) + [fixed[place]])
        solution = solved(mixed)
        return (column(solution[0], 0), solution[1])

    def gift_tops(self, lifted):
        # The lifted have just their things, all others are worth just their marks.
        equations = [row + [facts[0]] for row, facts in zip(self.rows, self.facts)]
        worth = self.tops(lifted, equations, [facts[1] for facts in self.facts])
        gifts = [come_to(row, worth[0]) - facts[0] * worth[1] for row, facts in zip(self.rows, self.facts)]
        return (gifts, worth[1])

    def above_marks(self, lifted):
        # These could be held down at their marks only by gifts below 0.
        return [house for house, top in zip(self.names, self.gift_tops(lifted)[0]) if top < 0]

    def lifted(self):
        # Begun at the marks, below which no worth may be, worths only grow from round to round.
        # So whoever is lifted once stays so, and the last worths are the least that can be.
        found = []
        for further in rounds(lambda earlier: self.above_marks(earlier)):
            found = found + further
        return found

    def prices(self, lifted):
        # The lifted get no price, all others no weight: as the lifted get no gifts and all others
        # are worth just their marks, the prices then come to as much as the gifts.
        equations = [held + [sum(held)] for held in self.columns]
        weight = self.tops(lifted, equations, [0 for house in self.names])
        told = []
        for place, house in enumerate(self.names):
            top = sum(self.columns[place]) * weight[1] - come_to(self.columns[place], weight[0])
            price = lowest(top, self.pieces[place] * weight[1])
            told.append((house, price, lowest(weight[0][place], weight[1])))
        return told


def least_gifts(book):
    needs = Needs(book)
    lifted = needs.lifted()
    found = needs.gift_tops(lifted)
    gifts = [(house, lowest(top, found[1])) for house, top in zip(needs.names, found[0])]
    return (lowest(sum(found[0]), found[1]), gifts, needs.prices(lifted))


def due(book, house, weight_of):
    amount = ZERO
    for holder, share in book.shares(house):
        amount = plus(amount, times(share, weight_of[holder]) if book.is_house(holder) else share)
    return amount


def are_prices(book, total, prices):
    need_no_whole_group(book)
    if sorted([house for house, price, weight in prices]) != book.houses():
        return False
    weight_of = dict([(house, weight) for house, price, weight in prices])
    amount = ZERO
    for house, price, weight in prices:
        if is_above(ZERO, price) or is_above(ZERO, weight):
            return False
        if plus(price, weight) != due(book, house, weight_of):
            return False
        facts = book.of(house)
        amount = plus(amount, times(price, (facts[1], 1)))
        amount = plus(amount, times(minus(weight, ONE), (facts[0], 1)))
    return amount == total
