"""Who rules which houses by votes, and the lookers of what is told of it."""

from wholeowners.ratios import HALF, ZERO, is_above, plus
from wholeowners.rounds import rounds


def outvote(book, voters, house):
    votes = ZERO
    # The holders are walked, not the voters, so that none counts twice.
    for holder, share in book.shares(house):
        if holder in voters:
            votes = plus(votes, share)
    return is_above(votes, HALF)


def outvoted(book, voters):
    return [house for house in book.houses() if outvote(book, voters, house)]


def are_unlike(names):
    return len(set(names)) == len(names)


def rules(book, holder):
    book.need_holder(holder)
    return rounds(lambda earlier: outvoted(book, [holder] + earlier))


def is_ruled(book, house, holder):
    return any([house in found for found in rules(book, holder)])


def ruler(book, house):
    book.need_house(house)
    for person in book.persons():
        if is_ruled(book, house, person):
            return person
    return None


def self_ruled(book):
    return [house for house in book.houses() if is_ruled(book, house, house)]


def is_step(book, known, house, voters):
    if not book.is_house(house) or not are_unlike(voters):
        return False
    return all([voter in known for voter in voters]) and outvote(book, voters, house)


def are_steps(book, holder, steps):
    book.need_holder(holder)
    known = [holder]
    for house, voters in steps:
        if not is_step(book, known, house, voters):
            return False
        known.append(house)
    return True


def is_shut(book, holder, houses):
    book.need_holder(holder)
    if not are_unlike(houses) or not all([book.is_house(name) for name in houses]):
        return False
    return all([house in houses for house in outvoted(book, [holder] + houses)])
