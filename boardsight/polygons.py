"""Polygons: convex, of places (u, v), told against the clock from the least place on.

They are reckoned as boards that lie flat: the place (u, v) at the spot (u, v, 0).
"""

from boardsight.boards import formed, side_of_edge, size_of
from boardsight.cuts import cut_by, edge_planes, left_by
from boardsight.ratios import fraction
from boardsight.spots import made_spot
from boardsight.wholes import in_lowest_terms

UP_AXIS = 2


def flat_spot(place):
    u = place[0]
    v = place[1]
    return made_spot(u[0] * v[1], v[0] * u[1], 0, u[1] * v[1])


def laid_flat(polygon):
    return formed([flat_spot(place) for place in polygon])


def place_under(spot):
    return (fraction(spot[0], spot[3]), fraction(spot[1], spot[3]))


# A flat board's form begins with the least place too, but it may go round by the clock.
def polygon_of(board):
    places = [place_under(spot) for spot in board]
    if side_of_edge((board[0], board[1]), board[2], UP_AXIS) < 0:
        places = places[:1] + list(reversed(places[1:]))
    return tuple(places)


def area_of(polygon):
    return size_of(laid_flat(polygon))


# The upright plane above which p * u + q * v + r is above 0; where p and q are nought its arrow
# is too, and all spots are on one side of it.
def upright_plane(p, q, r):
    return in_lowest_terms((p[0] * q[1] * r[1], q[0] * p[1] * r[1], 0, -r[0] * p[1] * q[1]))


def halved_by(polygon, p, q, r):
    kept = cut_by(laid_flat(polygon), upright_plane(p, q, r))[1]
    if kept is None:
        return None
    return polygon_of(kept)


def left_of(polygon, other):
    left = left_by(laid_flat(polygon), edge_planes(laid_flat(other)))
    return [polygon_of(part) for part in left]
