"""Walks: when along a straight way it changes which board hides which, and the orders between the changes."""

from boardsight.orders import hidden_by_each, pyramids_over, row_or_ring
from boardsight.ratios import rising, under
from boardsight.ways import BEGIN, END, bounds_of, free_moment, refuse_unless_free_at_ends, spot_at


def ends_of_stretches(boards, way):
    ends = []
    for i, one in enumerate(boards):
        for other in boards[:i] + boards[i + 1:]:
            bounds = bounds_of(one, other, way)
            if under(bounds[0], bounds[2]):
                ends.extend([bounds[0], bounds[2]])
    return ends


def changes_of(boards, way):
    refuse_unless_free_at_ends(boards, way)
    return [moment for moment in rising(ends_of_stretches(boards, way)) if moment not in (BEGIN, END)]


def walk_of(boards, way):
    ends = [BEGIN] + changes_of(boards, way) + [END]
    walk = []
    for low, high in zip(ends, ends[1:]):
        spot = spot_at(way, free_moment(boards, way, low, high))
        walk.append((low, high, row_or_ring(hidden_by_each(boards, pyramids_over(boards, spot)))))
    return walk
