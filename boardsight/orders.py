"""Orders for painting, with a plane for each pair, and the rings that bar them, with their sights."""

from boardsight.boards import refuse_unless_free
from boardsight.cuts import kept_by
from boardsight.sightjudge import is_parting, is_sight
from boardsight.sights import parting_plane, pyramid_faces, sight_through


def pyramids_over(boards, spot):
    return [pyramid_faces(board, spot) for board in boards]


def hidden_by(board, pyramids):
    return [j for j, faces in enumerate(pyramids) if kept_by(board, faces) is not None]


def hidden_by_each(boards, pyramids):
    return [hidden_by(board, pyramids) for board in boards]


def hiding_pairs(boards, spot):
    refuse_unless_free(boards, spot)
    pairs = []
    for i, row in enumerate(hidden_by_each(boards, pyramids_over(boards, spot))):
        pairs.extend([(i, j) for j in row])
    return pairs


# A board may be painted once all that it hides is; the least such board at each step makes the
# least order. Where a ring bars it the row stays short.
def least_row(hidden):
    row = []
    placed = {}
    waiting = list(range(len(hidden)))
    while waiting:
        ready = [i for i in waiting if all([j in placed for j in hidden[i]])]
        if not ready:
            return row
        row.append(ready[0])
        placed[ready[0]] = True
        waiting.remove(ready[0])
    return row


# Each board that is left over hides another one that is, so going on from one to the next comes
# back to one that was passed.
def ring_left_over(hidden, row):
    left = [i for i in range(len(hidden)) if i not in row]
    passed = []
    at = left[0]
    while at not in passed:
        passed.append(at)
        at = [j for j in hidden[at] if j in left][0]
    return passed[passed.index(at):]


def row_or_ring(hidden):
    row = least_row(hidden)
    if len(row) == len(hidden):
        return ("order", row)
    return ("ring", ring_left_over(hidden, row))


def pairs_round(row):
    return [(row[k], row[(k + 1) % len(row)]) for k in range(len(row))]


def pairs_of_places(row):
    pairs = []
    for k in range(len(row)):
        pairs.extend([(row[k], later) for later in row[k + 1:]])
    return pairs


def order_from(boards, spot):
    refuse_unless_free(boards, spot)
    pyramids = pyramids_over(boards, spot)
    found = row_or_ring(hidden_by_each(boards, pyramids))
    row = found[1]
    if found[0] == "order":
        planes = [parting_plane(boards[i], boards[j], spot, pyramids[j]) for i, j in pairs_of_places(row)]
        return ("order", row, planes)
    sights = [sight_through(kept_by(boards[i], pyramids[j]), boards[j], spot) for i, j in pairs_round(row)]
    return ("ring", row, sights)


def is_order(boards, spot, row, planes):
    if sorted(row) != list(range(len(boards))):
        return False
    pairs = pairs_of_places(row)
    if len(planes) != len(pairs):
        return False
    for plane, pair in zip(planes, pairs):
        if not is_parting(plane, boards[pair[0]], boards[pair[1]], spot):
            return False
    return True


def is_ring(boards, spot, row, sights):
    if len(row) < 2 or len(set(row)) < len(row) or len(sights) != len(row):
        return False
    if min(row) < 0 or max(row) >= len(boards):
        return False
    for sight, pair in zip(sights, pairs_round(row)):
        if not is_sight(boards[pair[0]], boards[pair[1]], spot, sight[0], sight[1]):
            return False
    return True


def order_judged(boards, spot, told):
    refuse_unless_free(boards, spot)
    if told[0] == "order":
        return is_order(boards, spot, told[1], told[2])
    return is_ring(boards, spot, told[1], told[2])
