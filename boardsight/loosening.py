"""Rings loosened: boards cut until their pieces have an order for painting."""

from boardsight.boards import plane_of, refuse_unless_free
from boardsight.cuts import cut_by
from boardsight.orders import hidden_by_each, pyramids_over, row_or_ring


# The place of a piece of the ring and its two parts. There always is one: pieces none of which
# another one's plane cuts make a tree of cuts without cuts, and so have an order.
def cut_in_ring(boards, ring):
    for i in ring:
        for j in ring:
            parts = cut_by(boards[i], plane_of(boards[j]))
            if None not in parts:
                return (i, parts)
    return None


# Each piece is cut at most once by the plane of each board, so this comes to an end.
def loosened(boards, spot):
    refuse_unless_free(boards, spot)
    pieces = list(enumerate(boards))
    while True:
        bare = [board for number, board in pieces]
        found = row_or_ring(hidden_by_each(bare, pyramids_over(bare, spot)))
        if found[0] == "order":
            return (pieces, found[1])
        cut = cut_in_ring(bare, found[1])
        number = pieces[cut[0]][0]
        pieces = pieces[:cut[0]] + [(number, part) for part in cut[1]] + pieces[cut[0] + 1:]
