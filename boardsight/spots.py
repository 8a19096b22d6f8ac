"""Spots: tuples (x, y, z, w) in lowest terms, w from 1 on."""

from boardsight.errors import NoSpot
from boardsight.wholes import determinant, in_lowest_terms


def made_spot(x, y, z, w=1):
    if w == 0:
        raise NoSpot("a spot has no w of nought")
    if w < 0:
        return in_lowest_terms((-x, -y, -z, -w))
    return in_lowest_terms((x, y, z, w))


def stands_first(one, other):
    for k in range(3):
        mine = one[k] * other[3]
        yours = other[k] * one[3]
        if mine != yours:
            return mine < yours
    return False


def shared_spot(one, other, t):
    mine = (t[1] - t[0]) * other[3]
    yours = t[0] * one[3]
    return made_spot(
        mine * one[0] + yours * other[0],
        mine * one[1] + yours * other[1],
        mine * one[2] + yours * other[2],
        t[1] * one[3] * other[3],
    )


# Its length is a multiple above 0 of the true one, so that it stays whole.
def arrow_between(one, other):
    return tuple([other[k] * one[3] - one[k] * other[3] for k in range(3)])


def without(spot, place):
    return tuple([spot[k] for k in range(4) if k != place])


def minor_of(one, other, third, place):
    return determinant(without(one, place), without(other, place), without(third, place))


# The three minors are the arrow across one, other and third, times all their w.
def in_line(one, other, third):
    for place in range(3):
        if minor_of(one, other, third, place) != 0:
            return False
    return True


def strictly_between(near, one, far):
    if not in_line(near, one, far):
        return False
    back = arrow_between(near, one)
    ahead = arrow_between(near, far)
    return back[0] * ahead[0] + back[1] * ahead[1] + back[2] * ahead[2] < 0
