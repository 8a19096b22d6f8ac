"""The judge of trees: it cuts the boards along the tree and looks where the pieces stay."""

from boardsight.cuts import cut_by


# The pieces in the plane, the parts below it and the parts above it.
def split_by(pieces, plane):
    here = []
    below = []
    above = []
    for number, board in pieces:
        parts = cut_by(board, plane)
        if parts == (None, None):
            here.append((number, board))
        if parts[0] is not None:
            below.append((number, parts[0]))
        if parts[1] is not None:
            above.append((number, parts[1]))
    return (here, below, above)


def tree_judged(some, tree):
    if tree is None:
        return len(some) == 0
    split = split_by(some, tree[0])
    if sorted(split[0]) != sorted(tree[1]):
        return False
    return tree_judged(split[1], tree[2]) and tree_judged(split[2], tree[3])
