"""Planes: tuples (a, b, c, d) in lowest terms, their sides told by their signs."""

from boardsight.errors import NoPlane
from boardsight.spots import made_spot, minor_of
from boardsight.wholes import in_lowest_terms, sign_of


def made_plane(a, b, c, d):
    if a == 0 and b == 0 and c == 0:
        raise NoPlane("a plane has an arrow that is not nought")
    return in_lowest_terms((a, b, c, d))


def turned_about(plane):
    return tuple([-number for number in plane])


def is_plain(plane):
    for number in plane[:3]:
        if number != 0:
            return number > 0
    return False


# By minors the numbers stay as short as they can be ahead of lowest terms. A tuple with w of 0
# stands for a direction; where there is no plane the first three numbers are 0.
def rough_plane(one, other, third):
    return (
        minor_of(one, other, third, 0),
        -minor_of(one, other, third, 1),
        minor_of(one, other, third, 2),
        minor_of(one, other, third, 3),
    )


def plane_through(one, other, third):
    rough = rough_plane(one, other, third)
    plane = made_plane(rough[0], rough[1], rough[2], rough[3])
    if is_plain(plane):
        return plane
    return turned_about(plane)


def height_over(plane, spot):
    return plane[0] * spot[0] + plane[1] * spot[1] + plane[2] * spot[2] - plane[3] * spot[3]


def side_of(plane, spot):
    return sign_of(height_over(plane, spot))


# Where the line goes along the plane w comes to 0, so that made_spot refuses it.
def met_at(plane, one, other):
    mine = height_over(plane, other)
    yours = height_over(plane, one)
    return made_spot(
        mine * one[0] - yours * other[0],
        mine * one[1] - yours * other[1],
        mine * one[2] - yours * other[2],
        mine * one[3] - yours * other[3],
    )
