"""Which holders a change of a house can reach."""


def reached(book, house):
    book.need_house(house)
    found = {}
    waiting = [house]
    while waiting != []:
        at = waiting.pop()
        for holder, share in book.shares(at):
            if holder not in found:
                found[holder] = True
                if book.is_house(holder):
                    waiting.append(holder)
    return sorted(found)
