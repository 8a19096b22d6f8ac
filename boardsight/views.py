"""Views: which board is seen at a place, and along a row of a picture."""

from boardsight.boards import refuse_unless_free
from boardsight.frames import nearness, windows_of
from boardsight.planes import side_of
from boardsight.polygons import flat_spot
from boardsight.ratios import between, fraction, minus, over, plus, rising, times, under


def nearness_at(near, place):
    return plus(plus(times(near[0], place[0]), times(near[1], place[1])), near[2])


# Of tuples (number, nearness) by rising numbers, the number with the greatest nearness.
def nearest_of(met):
    best = None
    for one in met:
        if best is None or under(best[1], one[1]):
            best = one
    return None if best is None else best[0]


def is_met(windows, spot):
    return -1 not in [side_of(window, spot) for window in windows]


def seen_at(frame, boards, place):
    refuse_unless_free(boards, frame[0])
    spot = flat_spot(place)
    met = []
    for number, board in enumerate(boards):
        if is_met(windows_of(frame, board), spot):
            met.append((number, nearness_at(nearness(frame, board), place)))
    return nearest_of(met)


# The stretch of the row at height v, (low, high) within 0 to 1, at whose places the board is
# met; None where there is none or a single place.
def reach_at(windows, v):
    low = (0, 1)
    high = (1, 1)
    for window in windows:
        slope = window[0] * v[1]
        start = window[1] * v[0] - window[3] * v[1]
        if slope == 0 and start < 0:
            return None
        if slope > 0 and under(low, fraction(-start, slope)):
            low = fraction(-start, slope)
        if slope < 0 and under(fraction(-start, slope), high):
            high = fraction(-start, slope)
    return (low, high) if under(low, high) else None


# Tuples (number, low, high, slope, start): from low to high the board is met, with the nearness
# slope * u + start.
def stretches_at(frame, boards, v):
    stretches = []
    for number, board in enumerate(boards):
        reach = reach_at(windows_of(frame, board), v)
        if reach is not None:
            near = nearness(frame, board)
            stretches.append((number, reach[0], reach[1], near[0], plus(times(near[1], v), near[2])))
    return stretches


def crossings_of(stretches):
    crossings = []
    for k, one in enumerate(stretches):
        for other in stretches[:k]:
            if one[3] != other[3]:
                crossings.append(over(minus(other[4], one[4]), minus(one[3], other[3])))
    return crossings


def number_between(stretches, low, high):
    u = between(low, high)
    met = []
    for number, first, last, slope, start in stretches:
        if under(first, u) and under(u, last):
            met.append((number, plus(times(slope, u), start)))
    return nearest_of(met)


# A board is met all the way from its low to its high, so no gap lies between two of its stretches.
def row_at(frame, boards, v):
    refuse_unless_free(boards, frame[0])
    stretches = stretches_at(frame, boards, v)
    ends = [one[1] for one in stretches] + [one[2] for one in stretches]
    ends = rising(ends + crossings_of(stretches))
    row = []
    for low, high in zip(ends, ends[1:]):
        number = number_between(stretches, low, high)
        if number is None:
            continue
        if row and row[-1][2] == number:
            row[-1] = (row[-1][0], high, number)
        else:
            row.append((low, high, number))
    return row
