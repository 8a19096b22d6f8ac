"""Ways: along a straight one, from when to when one board hides another one, with papers that show it."""

from boardsight.boards import edges_of, plane_of, refuse_unless_free, where_in
from boardsight.planes import height_over, met_at, rough_plane, side_of, turned_about
from boardsight.ratios import between, fraction, under
from boardsight.sightjudge import is_between
from boardsight.sights import is_free, sight_of
from boardsight.spots import shared_spot, strictly_between
from boardsight.wholes import in_lowest_terms

BEGIN = (0, 1)
END = (1, 1)


def spot_at(way, t):
    return shared_spot(way[0], way[1], t)


def refuse_unless_free_at_ends(boards, way):
    refuse_unless_free(boards, way[0])
    refuse_unless_free(boards, way[1])


# Planes along both boards: through an edge of either and a corner of the other one.
def planes_along(one, other):
    planes = []
    for edge in edges_of(one):
        planes.extend([rough_plane(edge[0], edge[1], corner) for corner in other])
    for edge in edges_of(other):
        planes.extend([rough_plane(edge[0], edge[1], corner) for corner in one])
    return [plane for plane in planes if plane[:3] != (0, 0, 0)]


# The spots from which the one hides the other are, but for those that aren't free, an open convex
# body: all spots behind the one, seen from the other. These planes bound it, and it is above them.
def bounding_planes(one, other):
    bounding = []
    for plane in [plane_of(one), plane_of(other)] + planes_along(one, other):
        for sided in (plane, turned_about(plane)):
            if is_between(sided, one, other):
                bounding.append(sided)
    return bounding


# The heights of the start and of the goal over the plane, by one measure.
def heights_at_ends(plane, way):
    return (height_over(plane, way[0]) * way[1][3], height_over(plane, way[1]) * way[0][3])


# The last moment at which one isn't above the plane; at the start one isn't. As top and bottom,
# since lowest terms are dear and only few are told.
def not_above_until(plane, way):
    heights = heights_at_ends(plane, way)
    if heights[1] <= 0:
        return END
    return (-heights[0], heights[1] - heights[0])


def turned_way(way):
    return (way[1], way[0])


# The first moment at which one isn't above the plane; at the goal one isn't.
def not_above_from(plane, way):
    moment = not_above_until(plane, turned_way(way))
    return (moment[1] - moment[0], moment[1])


# A tuple (low, first, high, last): low and high bound the stretch, if low is less, and first and
# last are the planes that do so, None where the stretch begins with the start or ends with the goal.
def bounds_of(one, other, way):
    low = BEGIN
    first = None
    high = END
    last = None
    for plane in bounding_planes(one, other):
        if side_of(plane, way[0]) <= 0:
            moment = not_above_until(plane, way)
            if first is None or under(low, moment):
                low = moment
                first = plane
        if side_of(plane, way[1]) <= 0:
            moment = not_above_from(plane, way)
            if last is None or under(moment, high):
                high = moment
                last = plane
    return (fraction(low[0], low[1]), first, fraction(high[0], high[1]), last)


def corners_on(board, plane):
    return [corner for corner in board if side_of(plane, corner) == 0]


def edges_on(board, plane):
    return [edge for edge in edges_of(board) if side_of(plane, edge[0]) == 0 and side_of(plane, edge[1]) == 0]


# Where the line through the spot and the corner crosses the edge between its ends; all lie on the plane.
def crossing_of(spot, corner, edge, plane):
    across = rough_plane(spot, corner, (plane[0], plane[1], plane[2], 0))
    if side_of(across, edge[0]) * side_of(across, edge[1]) < 0:
        return met_at(across, edge[0], edge[1])
    return None


# A spot on a bounding plane sees past the one board only along this plane, and so past a corner or
# an edge that lies on it.
def lines_along(one, other, spot, plane):
    lines = []
    for near in corners_on(one, plane):
        lines.extend([(near, far) for far in corners_on(other, plane)])
        lines.extend([(near, crossing_of(spot, near, edge, plane)) for edge in edges_on(other, plane)])
    for far in corners_on(other, plane):
        lines.extend([(crossing_of(spot, far, edge, plane), far) for edge in edges_on(one, plane)])
    return [line for line in lines if None not in line]


def touch_at(one, other, spot, plane):
    if where_in(one, spot) != "off":
        return (spot, other[0])
    for near, far in lines_along(one, other, spot, plane):
        if strictly_between(near, spot, far):
            return (near, far)
    return None


# What shows that the stretch begins or ends at this spot.
def paper_at(one, other, spot, plane):
    if plane is None:
        sight = sight_of(one, other, spot)
        return (None, sight[1], sight[2])
    touch = touch_at(one, other, spot, plane)
    return (in_lowest_terms(plane), touch[0], touch[1])


# Each board's plane is crossed at one moment at most, so that a free one is soon found.
def free_moment(boards, way, low, high):
    moment = between(low, high)
    while not is_free(boards, spot_at(way, moment)):
        moment = between(low, moment)
    return moment


def stretch_of(one, other, way):
    refuse_unless_free_at_ends([one, other], way)
    bounds = bounds_of(one, other, way)
    low = bounds[0]
    high = bounds[2]
    if not under(low, high):
        return ("never", in_lowest_terms(bounds[1]), in_lowest_terms(bounds[3]))
    first = paper_at(one, other, spot_at(way, low), bounds[1])
    last = paper_at(one, other, spot_at(way, high), bounds[3])
    t = free_moment([one, other], way, low, high)
    sight = sight_of(one, other, spot_at(way, t))
    return ("stretch", low, high, first, last, (t, sight[1], sight[2]))
