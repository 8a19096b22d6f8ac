"""Least trees of cuts, and the tables that show that none has fewer pieces."""

from boardsight.boards import plane_of
from boardsight.cuts import cut_by
from boardsight.errors import TooMany
from boardsight.treejudge import split_by

MOST_BOARDS = 4


def refuse_too_many(some):
    if len(some) > MOST_BOARDS:
        raise TooMany("a least tree is told of at most four boards")


# To find a part's plane among known ones is far less work than to reckon it from the part's
# corners, which have many more figures.
def plane_among(board, planes):
    for plane in planes:
        if cut_by(board, plane) == (None, None):
            return plane
    return plane_of(board)


def unlike_planes(pieces, planes):
    unlike = []
    for number, board in pieces:
        plane = plane_among(board, planes)
        if plane not in unlike:
            unlike.append(plane)
    return unlike


# The pieces in the plane, the row of the parts below it and the row of those above it.
def rows_by(pieces, plane):
    split = split_by(pieces, plane)
    return (tuple(split[0]), tuple(sorted(split[1])), tuple(sorted(split[2])))


# Finds the fewest pieces, and a tree with them, of these pieces and of all rows that come of them.
def find_least(pieces, planes, found):
    if pieces in found:
        return
    least = None
    for plane in unlike_planes(pieces, planes):
        rows = rows_by(pieces, plane)
        find_least(rows[1], planes, found)
        find_least(rows[2], planes, found)
        below = found[rows[1]]
        above = found[rows[2]]
        many = len(rows[0]) + below[0] + above[0]
        if least is None or many < least[0]:
            least = (many, (plane, rows[0], below[1], above[1]))
    found[pieces] = least


def least_tree(some):
    refuse_too_many(some)
    row = tuple(sorted(some))
    found = {(): (0, None)}
    find_least(row, [plane_of(board) for number, board in some], found)
    table = [(pieces, least[0]) for pieces, least in found.items() if pieces != ()]
    return (found[row][1], table)


# None where a row that the cuts ask for doesn't stand in the table.
def least_by_table(pieces, planes, many_of):
    sums = []
    for plane in unlike_planes(pieces, planes):
        rows = rows_by(pieces, plane)
        if rows[1] not in many_of or rows[2] not in many_of:
            return None
        sums.append(len(rows[0]) + many_of[rows[1]] + many_of[rows[2]])
    return min(sums)


def table_judged(some, table):
    refuse_too_many(some)
    many_of = {(): 0}
    for pieces, many in table:
        if pieces in many_of or list(pieces) != sorted(pieces):
            return False
        many_of[pieces] = many
    if tuple(sorted(some)) not in many_of:
        return False
    planes = [plane_of(board) for number, board in some]
    for pieces, many in table:
        if least_by_table(pieces, planes, many_of) != many:
            return False
    return True
