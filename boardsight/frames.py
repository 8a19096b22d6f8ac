"""Frames: an eye before a slanted square of places, and the images of boards in it."""

from boardsight.boards import plane_of, refuse_unless_free
from boardsight.cuts import kept_by
from boardsight.errors import NoFrame
from boardsight.planes import height_over, rough_plane
from boardsight.polygons import polygon_of
from boardsight.ratios import fraction
from boardsight.sights import side_faces
from boardsight.spots import made_spot
from boardsight.wholes import in_lowest_terms

# All places of a frame, as a flat board.
ALL_PLACES = ((0, 0, 0, 1), (0, 1, 0, 1), (1, 1, 0, 1), (1, 0, 0, 1))


def along(arrow):
    return (arrow[0], arrow[1], arrow[2], 0)


# Where across and up make no plane its four numbers come to 0, and so does the eye's height.
def made_frame(eye, corner, across, up):
    if height_over(rough_plane(corner, along(across), along(up)), eye) == 0:
        raise NoFrame("across and up make no plane, or the eye lies in it")
    return (eye, corner, tuple(across), tuple(up))


def place_spot(frame, place):
    corner = frame[1]
    right = place[0][0] * place[1][1] * corner[3]
    rise = place[1][0] * place[0][1] * corner[3]
    both = place[0][1] * place[1][1]
    sums = [both * corner[k] + right * frame[2][k] + rise * frame[3][k] for k in range(3)]
    return made_spot(sums[0], sums[1], sums[2], both * corner[3])


# The flat plane on whose sides lie the places that stand on the like sides of a plane in space;
# it may have an arrow of nought where that one goes along the frame.
def traced(frame, plane):
    w = frame[1][3]
    return in_lowest_terms((
        w * height_over(plane, along(frame[2])),
        w * height_over(plane, along(frame[3])),
        0,
        -height_over(plane, frame[1]),
    ))


# A ray meets the board where its place is below none of these.
def windows_of(frame, board):
    return [traced(frame, face) for face in side_faces(board, frame[0])]


def image_of(frame, board):
    refuse_unless_free([board], frame[0])
    image = kept_by(ALL_PLACES, windows_of(frame, board))
    if image is None:
        return None
    return polygon_of(image)


# At s times the arrow to a place the height over the board's plane has come from that of the eye
# to 0, so 1 by s is 1 less the place's height by the eye's.
def nearness(frame, board):
    eye = frame[0]
    corner = frame[1]
    refuse_unless_free([board], eye)
    plane = plane_of(board)
    height = height_over(plane, eye)
    return (
        fraction(-eye[3] * height_over(plane, along(frame[2])), height),
        fraction(-eye[3] * height_over(plane, along(frame[3])), height),
        fraction(corner[3] * height - eye[3] * height_over(plane, corner), corner[3] * height),
    )
