"""The judge of sights and partings: it only tells sides."""

from boardsight.boards import refuse_unless_free, where_in
from boardsight.planes import side_of
from boardsight.spots import strictly_between


def is_between(plane, one, other):
    for corner in one:
        if side_of(plane, corner) < 0:
            return False
    for corner in other:
        if side_of(plane, corner) > 0:
            return False
    return True


def is_parting(plane, one, other, spot):
    return side_of(plane, spot) <= 0 and is_between(plane, one, other)


def is_sight(one, other, spot, near, far):
    if where_in(one, near) != "within" or where_in(other, far) != "within":
        return False
    return strictly_between(near, spot, far)


def sight_judged(one, other, spot, told):
    refuse_unless_free([one, other], spot)
    if told[0] == "hides":
        return is_sight(one, other, spot, told[1], told[2])
    return is_parting(told[1], one, other, spot)
