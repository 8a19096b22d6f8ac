"""Pictures: tiles that tell what is seen in a frame, their judge, and pieces painted one over the other."""

from boardsight.boards import refuse_unless_free, size_of
from boardsight.cuts import do_overlap, kept_by, left_by
from boardsight.frames import ALL_PLACES, nearness, windows_of
from boardsight.polygons import area_of, laid_flat, polygon_of, upright_plane
from boardsight.ratios import minus, total_of
from boardsight.views import is_met

NOUGHT = (0, 1)


def all_windows(frame, boards):
    return [windows_of(frame, board) for board in boards]


# For each board that may stand before the one of this number: the planes on or above all of which
# are the places where it does. Of two boards in one plane the lesser number stands before.
def covers_over(number, windows, nears):
    covers = []
    for other, near in enumerate(nears):
        gain = [minus(yours, mine) for yours, mine in zip(near, nears[number])]
        if gain != [NOUGHT, NOUGHT, NOUGHT]:
            covers.append(windows[other] + [upright_plane(gain[0], gain[1], gain[2])])
        elif other < number:
            covers.append(windows[other])
    return covers


# Tuples (windows, covers): a tile of the number lies within all windows and under no cover. The
# last one is that of None.
def rooms_for(frame, boards):
    windows = all_windows(frame, boards)
    nears = [nearness(frame, board) for board in boards]
    rooms = [(windows[number], covers_over(number, windows, nears)) for number in range(len(boards))]
    return rooms + [([], windows)]


# The windows and covers themselves cut, since the edges of what they leave have many more figures.
def tiles_in(number, windows, covers):
    image = kept_by(ALL_PLACES, windows)
    parts = [] if image is None else [image]
    for cover in covers:
        left = []
        for part in parts:
            left.extend(left_by(part, cover))
        parts = left
    return [(number, polygon_of(part)) for part in parts]


def tiles_of(frame, boards):
    refuse_unless_free(boards, frame[0])
    rooms = rooms_for(frame, boards)
    tiles = tiles_in(None, rooms[-1][0], rooms[-1][1])
    for number in range(len(boards)):
        tiles.extend(tiles_in(number, rooms[number][0], rooms[number][1]))
    return tiles


def shares_of(frame, boards):
    tiles = tiles_of(frame, boards)
    shares = []
    for number in range(len(boards)):
        shares.append(total_of([area_of(polygon) for mine, polygon in tiles if mine == number]))
    return shares


def painting_of(frame, pieces):
    boards = [board for number, board in pieces]
    refuse_unless_free(boards, frame[0])
    windows = all_windows(frame, boards)
    tiles = tiles_in(None, [], windows)
    for place, piece in enumerate(pieces):
        tiles.extend(tiles_in(piece[0], windows[place], windows[place + 1:]))
    return tiles


def is_in_frame(spot):
    return 0 <= spot[0] <= spot[3] and 0 <= spot[1] <= spot[3]


def is_in_room(flat, room):
    for corner in flat:
        if not is_in_frame(corner) or not is_met(room[0], corner):
            return False
    for cover in room[1]:
        if kept_by(flat, cover) is not None:
            return False
    return True


def tiles_judged(frame, boards, tiles):
    refuse_unless_free(boards, frame[0])
    rooms = rooms_for(frame, boards)
    flats = []
    for number, polygon in tiles:
        if number is not None and not 0 <= number < len(boards):
            return False
        flats.append(laid_flat(polygon))
        if not is_in_room(flats[-1], rooms[-1 if number is None else number]):
            return False
    return not do_overlap(flats) and total_of([size_of(flat) for flat in flats]) == (1, 1)
