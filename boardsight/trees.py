"""Trees of cuts: planes with the pieces in them, told in a right order from every spot."""

from boardsight.boards import first_not_free, plane_of
from boardsight.cuts import cut_by
from boardsight.errors import NotFree
from boardsight.planes import side_of


# The own plane is handed on, since a part's corners have many more figures to reckon it from.
def grown_with(tree, number, board, own):
    if tree is None:
        return (own, ((number, board),), None, None)
    parts = cut_by(board, tree[0])
    if parts == (None, None):
        return (tree[0], tree[1] + ((number, board),), tree[2], tree[3])
    below = tree[2] if parts[0] is None else grown_with(tree[2], number, parts[0], own)
    above = tree[3] if parts[1] is None else grown_with(tree[3], number, parts[1], own)
    return (tree[0], tree[1], below, above)


def grown_by(tree, piece):
    return grown_with(tree, piece[0], piece[1], plane_of(piece[1]))


def tree_of(some, row=None):
    boards = dict(some)
    numbers = list(boards) if row is None else row
    tree = None
    for number in numbers:
        tree = grown_by(tree, (number, boards[number]))
    return tree


def shrunk_by(tree, number):
    if tree is None:
        return None
    here = tuple([piece for piece in tree[1] if piece[0] != number])
    below = shrunk_by(tree[2], number)
    above = shrunk_by(tree[3], number)
    if here == () and below is None and above is None:
        return None
    return (tree[0], here, below, above)


def pieces_of(tree):
    if tree is None:
        return []
    return list(tree[1]) + pieces_of(tree[2]) + pieces_of(tree[3])


def told_from(tree, spot):
    if tree is None:
        return []
    below = told_from(tree[2], spot)
    above = told_from(tree[3], spot)
    if side_of(tree[0], spot) > 0:
        return below + list(tree[1]) + above
    return above + list(tree[1]) + below


def painted_by(tree, spot):
    pieces = pieces_of(tree)
    place = first_not_free([board for number, board in pieces], spot)
    if place is not None:
        raise NotFree(pieces[place][0])
    return told_from(tree, spot)
