"""Fractions: tuples (top, bottom) in lowest terms, bottom from 1 on."""

from boardsight.errors import NoNumber
from boardsight.wholes import in_lowest_terms


def fraction(top, bottom=1):
    if bottom == 0:
        raise NoNumber("a fraction has no bottom of nought")
    if bottom < 0:
        return in_lowest_terms((-top, -bottom))
    return in_lowest_terms((top, bottom))


def plus(one, other):
    return fraction(one[0] * other[1] + other[0] * one[1], one[1] * other[1])


def minus(one, other):
    return fraction(one[0] * other[1] - other[0] * one[1], one[1] * other[1])


def times(one, other):
    return fraction(one[0] * other[0], one[1] * other[1])


def over(one, other):
    if other[0] == 0:
        raise NoNumber("nothing is parted by nought")
    return fraction(one[0] * other[1], one[1] * other[0])


def under(one, other):
    return one[0] * other[1] < other[0] * one[1]


def total_of(some):
    total = (0, 1)
    for one in some:
        total = plus(total, one)
    return total


# Each fraction once.
def rising(fractions):
    sorted_ones = []
    for one in fractions:
        place = len([other for other in sorted_ones if under(other, one)])
        if place == len(sorted_ones) or sorted_ones[place] != one:
            sorted_ones.insert(place, one)
    return sorted_ones


# One with few figures where the gap is wide enough; else that of both tops by both bottoms, which
# has hardly more figures than they.
def between(low, high):
    bottom = 2
    while bottom < low[1] + high[1]:
        top = low[0] * bottom // low[1] + 1
        if top * high[1] < high[0] * bottom:
            return fraction(top, bottom)
        bottom = bottom * bottom
    return fraction(low[0] + high[0], low[1] + high[1])
