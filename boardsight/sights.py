"""Sights: whether one board hides another one from a spot, and what shows it."""

from boardsight.boards import edges_of, first_not_free, plane_of, refuse_unless_free
from boardsight.cuts import kept_by
from boardsight.planes import made_plane, met_at, plane_through, rough_plane, side_of, turned_about
from boardsight.sightjudge import is_parting
from boardsight.spots import arrow_between, made_spot


def is_free(boards, spot):
    return first_not_free(boards, spot) is None


def turned_towards(plane, spots):
    for spot in spots:
        if side_of(plane, spot) < 0:
            return turned_about(plane)
    return plane


# A plane through the spot and each edge, with the board above it.
def side_faces(board, spot):
    return [turned_towards(plane_through(spot, edge[0], edge[1]), board) for edge in edges_of(board)]


# The spots strictly above all these planes are those strictly between the spot and one within
# the board: the inside of the pyramid over the board with its tip at the spot.
def pyramid_faces(board, spot):
    return [turned_towards(plane_of(board), [spot])] + side_faces(board, spot)


def does_hide(one, other, spot):
    refuse_unless_free([one, other], spot)
    return kept_by(one, pyramid_faces(other, spot)) is not None


# The corners weighed by their w: within, like the middle, and with much shorter numbers.
def spot_within(board):
    sums = [sum([corner[k] for corner in board]) for k in range(4)]
    return made_spot(sums[0], sums[1], sums[2], sums[3])


# A board and a pyramid that don't overlap are parted by a plane along a face of either, or along
# an edge of each; these are the ones along an edge of each.
def plane_along_edges(one, other, spot):
    arrows = [arrow_between(edge[0], edge[1]) for edge in edges_of(one)]
    pyramid_edges = [(spot, corner) for corner in other] + edges_of(other)
    for edge in pyramid_edges:
        for arrow in arrows:
            rough = rough_plane(edge[0], edge[1], (arrow[0], arrow[1], arrow[2], 0))
            if rough[:3] == (0, 0, 0):
                continue
            for plane in (rough, turned_about(rough)):
                if is_parting(plane, one, other, spot):
                    return made_plane(plane[0], plane[1], plane[2], plane[3])
    return None


def parting_plane(one, other, spot, faces):
    own = plane_of(one)
    for plane in [turned_about(face) for face in faces] + [own, turned_about(own)]:
        if is_parting(plane, one, other, spot):
            return plane
    return plane_along_edges(one, other, spot)


def sight_through(shown, other, spot):
    near = spot_within(shown)
    return (near, met_at(plane_of(other), spot, near))


def sight_of(one, other, spot):
    refuse_unless_free([one, other], spot)
    faces = pyramid_faces(other, spot)
    shown = kept_by(one, faces)
    if shown is None:
        return ("parted", parting_plane(one, other, spot, faces))
    sight = sight_through(shown, other, spot)
    return ("hides", sight[0], sight[1])
