"""The judge of stretches along a way: it only tells sides and compares moments."""

from boardsight.boards import where_in
from boardsight.planes import side_of
from boardsight.ratios import under
from boardsight.sightjudge import is_parting, is_sight
from boardsight.sights import is_free
from boardsight.spots import strictly_between
from boardsight.ways import BEGIN, END, not_above_from, not_above_until, refuse_unless_free_at_ends, spot_at


def is_never(one, other, way, early, late):
    if not is_parting(early, one, other, way[0]) or not is_parting(late, one, other, way[1]):
        return False
    return not under(not_above_until(early, way), not_above_from(late, way))


def is_touch(one, other, spot, near, far):
    if where_in(one, near) == "off" or where_in(other, far) == "off":
        return False
    return near == spot or strictly_between(near, spot, far)


# Of either end of a stretch: the way's end on that side stands at the spot end, at the moment edge.
def is_bound(one, other, way, moment, paper, end, edge):
    if paper[0] is None:
        return moment == edge and is_sight(one, other, end, paper[1], paper[2])
    spot = spot_at(way, moment)
    if not is_parting(paper[0], one, other, end) or side_of(paper[0], spot) != 0:
        return False
    return is_touch(one, other, spot, paper[1], paper[2])


def is_shown(one, other, way, low, high, sight):
    if not under(low, sight[0]) or not under(sight[0], high):
        return False
    spot = spot_at(way, sight[0])
    return is_free([one, other], spot) and is_sight(one, other, spot, sight[1], sight[2])


def is_stretch(one, other, way, told):
    low = told[1]
    high = told[2]
    if under(low, BEGIN) or not under(low, high) or under(END, high):
        return False
    if not is_bound(one, other, way, low, told[3], way[0], BEGIN):
        return False
    if not is_bound(one, other, way, high, told[4], way[1], END):
        return False
    return is_shown(one, other, way, low, high, told[5])


def stretch_judged(one, other, way, told):
    refuse_unless_free_at_ends([one, other], way)
    if told[0] == "never":
        return is_never(one, other, way, told[1], told[2])
    return is_stretch(one, other, way, told)
