"""Boards: tuples of corners in the order round them, in their form."""

from boardsight.errors import NoBoard, NotFree
from boardsight.planes import plane_through, side_of
from boardsight.ratios import fraction, total_of
from boardsight.spots import in_line, made_spot, minor_of, stands_first, without
from boardsight.wholes import greatest_divisor, sign_of

MOST_CORNERS = 8


# Parts of boards come here too, so the number of corners isn't bounded.
def formed(corners):
    first = 0
    for k in range(1, len(corners)):
        if stands_first(corners[k], corners[first]):
            first = k
    ring = list(corners[first:]) + list(corners[:first])
    if stands_first(ring[-1], ring[1]):
        ring = ring[:1] + list(reversed(ring[1:]))
    return tuple(ring)


def edges_of(board):
    return [(board[k - 1], board[k]) for k in range(len(board))]


# The axis along which the plane, laid flat, keeps its areas: any along which it doesn't lie.
def flat_axis(plane):
    for axis in range(3):
        if plane[axis] != 0:
            return axis
    return None


def side_of_edge(edge, spot, axis):
    return sign_of(minor_of(edge[0], edge[1], spot, axis))


def is_convex(corners, axis):
    turn = side_of_edge((corners[0], corners[1]), corners[2], axis)
    many = len(corners)
    for k in range(many):
        edge = (corners[k - 1], corners[k])
        for ahead in range(1, many - 1):
            if side_of_edge(edge, corners[(k + ahead) % many], axis) != turn:
                return False
    return True


def made_board(corners):
    if len(corners) < 3 or len(corners) > MOST_CORNERS:
        raise NoBoard("a board has three to eight corners")
    if in_line(corners[0], corners[1], corners[2]):
        raise NoBoard("three corners are in a line")
    plane = plane_through(corners[0], corners[1], corners[2])
    for corner in corners:
        if side_of(plane, corner) != 0:
            raise NoBoard("the corners are not on one plane")
    if not is_convex(corners, flat_axis(plane)):
        raise NoBoard("the corners don't go once round with every corner turning one way")
    return formed(corners)


def plane_of(board):
    return plane_through(board[0], board[1], board[2])


# Twice the area over an edge, seen along the axis, from the spot where the other two axes start.
def swept_by(edge, axis):
    one = without(edge[0], axis)
    other = without(edge[1], axis)
    return fraction(one[0] * other[1] - one[1] * other[0], one[2] * other[2])


# Seen along one axis the area and the plane's arrow shrink alike.
def size_of(board):
    plane = plane_of(board)
    axis = flat_axis(plane)
    swept = total_of([swept_by(edge, axis) for edge in edges_of(board)])
    return fraction(abs(swept[0]), swept[1] * 2 * abs(plane[axis]))


def where_in(board, spot):
    plane = plane_of(board)
    if side_of(plane, spot) != 0:
        return "off"
    axis = flat_axis(plane)
    turn = side_of_edge((board[0], board[1]), board[2], axis)
    sides = [turn * side_of_edge(edge, spot, axis) for edge in edges_of(board)]
    if min(sides) > 0:
        return "within"
    if min(sides) == 0:
        return "rim"
    return "off"


# A sum of spots, number by number, over the least w that both can be told by.
def summed(one, other):
    divisor = greatest_divisor(one[3], other[3])
    mine = other[3] // divisor
    yours = one[3] // divisor
    sums = [mine * one[k] + yours * other[k] for k in range(3)]
    return (sums[0], sums[1], sums[2], mine * one[3])


def middle(board):
    total = board[0]
    for corner in board[1:]:
        total = summed(total, corner)
    return made_spot(total[0], total[1], total[2], total[3] * len(board))


def first_not_free(boards, spot):
    for number, board in enumerate(boards):
        if side_of(plane_of(board), spot) == 0:
            return number
    return None


def refuse_unless_free(boards, spot):
    number = first_not_free(boards, spot)
    if number is not None:
        raise NotFree(number)
