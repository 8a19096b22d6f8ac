"""Cuts: the parts of a board, and whether parts fill it."""

from boardsight.boards import edges_of, flat_axis, formed, plane_of, size_of, where_in
from boardsight.planes import made_plane, met_at, rough_plane, side_of, turned_about
from boardsight.ratios import total_of


# The corners and the spots where edges cross the plane, round the board, each with its side.
def sided_round(board, plane):
    sided = []
    for edge in edges_of(board):
        before = side_of(plane, edge[0])
        side = side_of(plane, edge[1])
        if before * side < 0:
            sided.append((met_at(plane, edge[0], edge[1]), 0))
        sided.append((edge[1], side))
    return sided


def cut_by(board, plane):
    sides = [side_of(plane, corner) for corner in board]
    if min(sides) == 0 and max(sides) == 0:
        return (None, None)
    if min(sides) >= 0:
        return (None, board)
    if max(sides) <= 0:
        return (board, None)
    sided = sided_round(board, plane)
    below = formed([spot for spot, side in sided if side <= 0])
    above = formed([spot for spot, side in sided if side >= 0])
    return (below, above)


def kept_by(board, planes):
    part = board
    for plane in planes:
        part = cut_by(part, plane)[1]
        if part is None:
            return None
    return part


# Parts that make up what is left of a board without its part on or above all planes.
def left_by(board, planes):
    if kept_by(board, planes) is None:
        return [board]
    left = []
    rest = board
    for plane in planes:
        parts = cut_by(rest, plane)
        if parts[0] is not None:
            left.append(parts[0])
        rest = parts[1]
    return left


# A plane through each edge, with the board above it, that goes across the board's own plane.
def edge_planes(board):
    axis = flat_axis(plane_of(board))
    along = tuple([1 if k == axis else 0 for k in range(4)])
    planes = []
    for edge in edges_of(board):
        rough = rough_plane(edge[0], edge[1], along)
        plane = made_plane(rough[0], rough[1], rough[2], rough[3])
        if min([side_of(plane, corner) for corner in board]) < 0:
            plane = turned_about(plane)
        planes.append(plane)
    return planes


def common_part(one, other):
    return kept_by(one, edge_planes(other))


def lies_in(part, board):
    if plane_of(part) != plane_of(board):
        return False
    return "off" not in [where_in(board, corner) for corner in part]


def is_beyond(part, planes):
    for plane in planes:
        if max([side_of(plane, corner) for corner in part]) <= 0:
            return True
    return False


# Convex parts of one plane without area in common are parted along an edge of one of them.
def do_overlap(parts):
    rims = [edge_planes(part) for part in parts]
    for k, part in enumerate(parts):
        for earlier in range(k):
            if not is_beyond(part, rims[earlier]) and not is_beyond(parts[earlier], rims[k]):
                return True
    return False


def does_fill(board, parts):
    for part in parts:
        if not lies_in(part, board):
            return False
    if total_of([size_of(part) for part in parts]) != size_of(board):
        return False
    return not do_overlap(parts)
