"""Fractions: tuples (top, bottom) of whole numbers in lowest terms, bottom from 1 on."""

ZERO = (0, 1)
ONE = (1, 1)
HALF = (1, 2)


def common_divisor(number, other):
    while other != 0:
        rest = number % other
        number = other
        other = rest
    return number


def lowest(top, bottom):
    common = common_divisor(top, bottom)
    return (top // common, bottom // common)


def plus(first, second):
    # Only what the bottoms have in common can be in the sum's top too. To look there alone
    # spares a search in the long numbers that many sales leave behind.
    common = common_divisor(first[1], second[1])
    top = first[0] * (second[1] // common) + second[0] * (first[1] // common)
    shared = common_divisor(top, common)
    return (top // shared, (first[1] // common) * (second[1] // shared))


def minus(first, second):
    return plus(first, (-second[0], second[1]))


def times(first, second):
    return lowest(first[0] * second[0], first[1] * second[1])


def is_above(first, second):
    return first[0] * second[1] > second[0] * first[1]
