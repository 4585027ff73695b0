"""What the tests share: books made in one go, and what the document says, reckoned anew and plainly."""

from fractions import Fraction
from itertools import combinations
from math import gcd

from wholeowners.books import Book
from wholeowners.errors import OwnError
from wholeowners.falls import agreeing, agrees, fewest, spared
from wholeowners.gifts import are_prices, least_gifts
from wholeowners.reach import reached
from wholeowners.ruling import are_steps, is_shut, ruler, rules, self_ruled
from wholeowners.texts import shown
from wholeowners.worths import parts, through, whole_group, worths

PERSONS = ("ann", "bob", "cid", "dan")
HOUSES = ("ha", "hb", "hc", "hd", "he", "hf")
HALF = Fraction(1, 2)
THIRD = Fraction(1, 3)
NO_NAMES = ("", "nobody", "Ann", "HA", "h", "haa", " ha", "ha ", "ha\n", "\n", "~", "a" * 10000)


def ratio(number):
    return (Fraction(number).numerator, Fraction(number).denominator)


def fraction(row):
    return Fraction(row[0], row[1])


def made(persons, houses):
    # houses: for each name its things, mark and loss, and its holders' shares; what is left of the
    # shares is the first person's.
    book = Book()
    for person in persons:
        book.person(person)
    for house, row in houses.items():
        book.house(house, persons[0], *row[:3])
    for house, row in houses.items():
        for holder, share in row[3].items():
            if holder != persons[0]:
                book.sale(house, persons[0], holder, ratio(share))
    return book


def whole_books():
    # Books in which a group owns itself whole, and their greatest group.
    return [
        (made(["ann"], {"ha": (1, 2, 3, {"ha": 1})}), ["ha"]),
        (made(["ann"], {"ha": (0, 0, 0, {"hb": 1}), "hb": (0, 0, 0, {"ha": 1})}), ["ha", "hb"]),
        (made(["ann"], {"ha": (0, 0, 0, {"hb": HALF, "ha": HALF}), "hb": (0, 0, 0, {"ha": 1})}), ["ha", "hb"]),
        (made(["ann", "bob"], {
            "hd": (1, 0, 0, {"hb": THIRD, "bob": THIRD}),
            "hb": (2, 0, 0, {"hc": 1}),
            "hc": (3, 0, 0, {"hb": 1}),
            "ha": (4, 0, 0, {"bob": 1}),
        }), ["hb", "hc"]),
        (made(["ann"], {
            "ha": (0, 0, 0, {"ha": 1}),
            "hb": (0, 0, 0, {}),
            "hc": (0, 0, 0, {"hd": 1}),
            "hd": (0, 0, 0, {"hc": HALF, "hd": HALF}),
        }), ["ha", "hc", "hd"]),
        # What the ring holds whole lies in the greatest group; what holds of the ring does not pull it out.
        (made(["ann"], {
            "ha": (0, 0, 0, {"hb": 1}),
            "hb": (0, 0, 0, {"hc": 1}),
            "hc": (0, 0, 0, {"hd": 1}),
            "hd": (0, 0, 0, {"hc": 1}),
            "he": (0, 0, 0, {"ha": HALF}),
            "hf": (0, 0, 0, {"he": 1}),
        }), ["ha", "hb", "hc", "hd"]),
        # One share of a person at the end of the chain opens all that hangs on it, but not the rest.
        (made(["ann"], {
            "ha": (0, 0, 0, {"hb": 1}),
            "hb": (0, 0, 0, {"hc": 1}),
            "hc": (0, 0, 0, {"ha": Fraction(999999, 1000000)}),
            "hd": (0, 0, 0, {"hd": HALF, "ha": HALF}),
            "he": (0, 0, 0, {"he": 1}),
        }), ["he"]),
    ]


def told(book):
    houses = book.houses()
    return (book.persons(), houses, [(house, book.shares(house), book.of(house)) for house in houses])


def anew(book):
    rows = {}
    for house in book.houses():
        shares = {holder: fraction(share) for holder, share in book.shares(house)}
        rows[house] = (*book.of(house), shares)
    return made(book.persons(), rows)


def chance_shares(chance, holders, bottom):
    tops = [chance.choice((0, 0, 1, chance.randint(1, bottom))) for holder in holders]
    tops[chance.randrange(len(tops))] += 1
    return {holder: Fraction(top, sum(tops)) for holder, top in zip(holders, tops) if top > 0}


def chance_book(chance, most_houses=5, most_persons=4, bottom=6, reach=30):
    persons = PERSONS[:chance.randint(1, most_persons)]
    houses = HOUSES[:chance.randint(0, most_houses)]
    # With few persons among the holders, groups that own themselves whole come up as well.
    holders = list(houses) + list(persons) * chance.choice((1, 1, 1, 0)) + [persons[0]]
    rows = {}
    for house in houses:
        facts = (chance.randint(-reach, reach), chance.randint(-reach, reach), chance.randint(0, reach))
        rows[house] = (*facts, chance_shares(chance, sorted(set(holders)), bottom))
    return made(persons, rows)


def chance_books(chance, count, whole=None, **bounds):
    # whole: True for books in which a group owns itself whole, False for the others, None for all.
    books = []
    while len(books) < count:
        book = chance_book(chance, **bounds)
        if whole is None or whole == (greatest_group(book) != []):
            books.append(book)
    return books


def share_of(book, holder, house):
    return fraction(dict(book.shares(house)).get(holder, (0, 1)))


def lots_of(houses):
    # The fewer first, of like many in the order of texts, as combinations come so of what is sorted.
    return [list(lot) for many in range(len(houses) + 1) for lot in combinations(sorted(houses), many)]


def owns_itself_whole(book, group):
    return group != [] and all(sum(share_of(book, holder, house) for holder in group) == 1 for house in group)


def greatest_group(book):
    groups = [group for group in lots_of(book.houses()) if owns_itself_whole(book, group)]
    return sorted({house for group in groups for house in group})


def solution_of(rows):
    # By elimination in Python's own fractions; a row has what it comes to at its end.
    rows = [[Fraction(number) for number in row] for row in rows]
    for turn in range(len(rows)):
        pivot = next(place for place in range(turn, len(rows)) if rows[place][turn] != 0)
        rows[turn], rows[pivot] = rows[pivot], rows[turn]
        rows[turn] = [number / rows[turn][turn] for number in rows[turn]]
        for place in range(len(rows)):
            if place != turn:
                rows[place] = [number - rows[place][turn] * by for number, by in zip(rows[place], rows[turn])]
    return [row[-1] for row in rows]


def owning_row(book, one):
    # Each house's worth, less what it holds of others, by all worths.
    return [int(one == other) - share_of(book, one, other) for other in book.houses()]


def worths_by(book, things):
    houses = book.houses()
    worth = dict(zip(houses, solution_of([owning_row(book, house) + [things[house]] for house in houses])))
    for house in houses:
        assert worth[house] == things[house] + sum(share_of(book, house, other) * worth[other] for other in houses)
    return worth


def things_of(book):
    return {house: book.of(house)[0] for house in book.houses()}


def below_marks(book, fallen):
    things = {house: book.of(house)[0] - (book.of(house)[2] if house in fallen else 0) for house in book.houses()}
    worth = worths_by(book, things)
    return [house for house in book.houses() if worth[house] < book.of(house)[1]]


def hold_more_than_half(book, voters, house):
    return sum(share_of(book, voter, house) for voter in set(voters)) > Fraction(1, 2)


def is_shut_lot(book, holder, lot):
    outside = [house for house in book.houses() if house not in lot]
    return not any(hold_more_than_half(book, [holder] + lot, house) for house in outside)


def ruled_lot(book, holder):
    # The least shut lot is what all shut lots have in common.
    shut = [set(lot) for lot in lots_of(book.houses()) if is_shut_lot(book, holder, lot)]
    return sorted(set.intersection(*shut))


def flat(lists):
    return [name for names in lists for name in names]


def asked(call, *handed):
    try:
        return call(*handed)
    except OwnError as refusal:
        return (type(refusal).__name__, getattr(refusal, "group", None))


def calls(book):
    # Every question that is built, with names that are none among what is handed in.
    houses = book.houses()
    holders = book.persons() + houses
    plain = (whole_group, worths, parts, fewest, spared, agreeing, self_ruled, least_gifts, shown)
    rows = [(call, ()) for call in plain]
    rows += [(through, (holder, house)) for holder in holders + ["nobody"] for house in houses + ["ann"]]
    rows += [(rules, (holder,)) for holder in holders + ["nobody"]]
    rows += [(call, (house,)) for call in (ruler, reached) for house in houses + ["ann", "nobody"]]
    rows += [(are_prices, handed) for handed in some_prices(book)]
    rows += [(agrees, (lot,)) for lot in ([], houses, houses[:1], houses[1:], houses[::-2])]
    for holder in holders + ["nobody"]:
        rows += [(is_shut, (holder, lot)) for lot in ([], houses, houses[:1], houses[1:], ["ann"])]
        rows += [(are_steps, (holder, steps)) for steps in some_steps(holder, houses)]
    return rows


def some_steps(holder, houses):
    good = [(house, [holder] + [other for other in houses[:place] if other != holder])
            for place, house in enumerate(houses)]
    return [[], good, good[:1], good[1:2], good + [("nobody", [holder])]]


def some_prices(book):
    # With weights of 1 and prices of 0 the sum is 0; where there are least gifts, their prices too.
    plain = [(house, (0, 1), (1, 1)) for house in book.houses()]
    rows = [((0, 1), plain), ((1, 1), plain), ((0, 1), plain[1:]), ((0, 1), plain + [("nobody", (0, 1), (1, 1))])]
    if whole_group(book) == []:
        total, _, prices = least_gifts(book)
        rows += [(total, prices), (total, prices[::-1]), (total, prices[1:])]
    return rows


def answers(book):
    return [(call.__name__, handed, asked(call, book, *handed)) for call, handed in calls(book)]


def lists_in(answer):
    if isinstance(answer, (list, tuple)):
        inner = [found for part in answer for found in lists_in(part)]
        return inner + ([answer] if isinstance(answer, list) else [])
    return []


def is_fraction(answer):
    if type(answer) is not tuple or [type(number) for number in answer] != [int, int]:
        return False
    return answer[1] >= 1 and gcd(answer[0], answer[1]) == 1


def is_row_of_fractions(answer, names):
    # A list of tuples (name, fraction), with just these names in their order.
    if type(answer) is not list or [type(row) for row in answer] != [tuple] * len(names):
        return False
    return [row[0] for row in answer] == names and all(len(row) == 2 and is_fraction(row[1]) for row in answer)
