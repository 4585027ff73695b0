"""Equations in whole numbers, solved without fractions on the way."""


def cleared(row, by, turn, former):
    # The division leaves no rest, as all numbers behind a turn are minors of the first rows.
    return [(by[turn] * number - row[turn] * other) // former for number, other in zip(row, by)]


def solved(rows):
    # A row has a number for each unknown, as many as there are rows, and then what they come to
    # in each of several cases. Told are, for each unknown, its tops in these cases, and the one
    # bottom of all. Rows don't change places, so the number by which a turn clears must not be 0.
    bottom = 1
    now = rows
    for turn in range(len(rows)):
        by = now[turn]
        now = [row if place == turn else cleared(row, by, turn, bottom) for place, row in enumerate(now)]
        bottom = by[turn]
    return ([row[len(rows):] for row in now], bottom)
