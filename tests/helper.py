"""What several test files need: numbers of many figures, boards drawn by a seeded draw, scenes, refusals."""

from copy import deepcopy
from fractions import Fraction

from boardsight.boards import made_board
from boardsight.cuts import cut_by
from boardsight.errors import NoBoard, NoFrame, SightError
from boardsight.frames import made_frame
from boardsight.sights import does_hide, is_free
from boardsight.spots import made_spot

# Two thousand figures each: the most that is handed in.
MANY = 10 ** 2000 - 1
MANY_TOO = 10 ** 1999 + 7


def number_of(fraction):
    return Fraction(fraction[0], fraction[1])


def numbers_of(spot):
    return tuple(Fraction(number, spot[3]) for number in spot[:3])


def flat(pairs, z=0, w=1):
    return [made_spot(x, y, z, w) for x, y in pairs]


def flat_board(pairs, z=0, w=1):
    return made_board(flat(pairs, z, w))


def drawn_spot(draw, reach=9, most_w=3):
    numbers = [draw.randint(-reach, reach) for _ in range(3)]
    return made_spot(numbers[0], numbers[1], numbers[2], draw.randint(1, most_w))


def drawn_board(draw, reach=6, most_w=3, most_corners=5):
    while True:
        start, across, up = [[draw.randint(-reach, reach) for _ in range(3)] for _ in range(3)]
        w = draw.randint(1, most_w)
        corners = []
        for _ in range(draw.randint(3, most_corners)):
            u, v = draw.randint(-3, 3), draw.randint(-3, 3)
            x, y, z = [start[k] + u * across[k] + v * up[k] for k in range(3)]
            corners.append(made_spot(x, y, z, w))
        try:
            return made_board(corners)
        except NoBoard:
            continue


def drawn_scene(draw, many, reach=6, spot_reach=9):
    while True:
        boards = [drawn_board(draw, draw.choice([1, 2, reach])) for _ in range(many)]
        spot = drawn_spot(draw, spot_reach)
        if is_free(boards, spot):
            return boards, spot


def sheet(left, right, low, high, z):
    return flat_board([(left, low), (right, low), (right, high), (left, high)], z)


def plank(start, goal, low, high):
    """From start to goal and a bit beyond both, slanting up from low to high."""
    dx, dy = goal[0] - start[0], goal[1] - start[1]
    ends = [(start[0] * 8 - dx, start[1] * 8 - dy, low * 8), (goal[0] * 8 + dx, goal[1] * 8 + dy, high * 8)]
    (x, y, z), (far_x, far_y, far_z) = ends
    return made_board([
        made_spot(x + dy, y - dx, z, 8), made_spot(x - dy, y + dx, z, 8),
        made_spot(far_x - dy, far_y + dx, far_z, 8), made_spot(far_x + dy, far_y - dx, far_z, 8),
    ])


def wheel(points):
    """A plank along each side: seen from high up each one hides the next, and the last one the first."""
    return [plank(point, points[(k + 1) % len(points)], 0, 8) for k, point in enumerate(points)]


# From (0, 0, 0, 1) each one of these hides the other.
CROSS = [
    made_board([(-2, -2, 8, 1), (-2, 2, 8, 1), (2, 2, 12, 1), (2, -2, 12, 1)]),
    made_board([(-2, -2, 12, 1), (-2, 2, 12, 1), (2, 2, 8, 1), (2, -2, 8, 1)]),
]

FLOOR = sheet(-4, 4, -4, 4, 0)
LEFT_FLOOR = sheet(-4, 0, -4, 4, 0)
RIGHT_FLOOR = sheet(0, 4, -4, 4, 0)
# It stands across the floor, so each of the two cuts the other one into halves.
WALL = made_board([(0, -4, -4, 1), (0, 4, -4, 1), (0, 4, 4, 1), (0, -4, 4, 1)])
LOW_WALL = made_board([(0, -4, -4, 1), (0, 4, -4, 1), (0, 4, 0, 1), (0, -4, 0, 1)])
HIGH_WALL = made_board([(0, -4, 0, 1), (0, 4, 0, 1), (0, 4, 4, 1), (0, -4, 4, 1)])

HIGH_UP = (3, 2, 200, 1)
THREE_RING = wheel([(0, 0), (16, 0), (0, 16)])
FOUR_RING = wheel([(-16, -16), (16, -16), (16, 16), (-16, 16)])


def parts_of(pieces, plane, side):
    parts = [(number, cut_by(board, plane)[side]) for number, board in pieces]
    return [piece for piece in parts if piece[1] is not None]


def hides_later(boards, row, spot):
    """Whether in this row some board hides one that stands behind it."""
    return any(does_hide(boards[i], boards[j], spot) for k, i in enumerate(row) for j in row[k + 1:])


def spoiled(value):
    """Empties all lists within, so that a list that is kept elsewhere would show it."""
    if isinstance(value, (list, tuple)):
        for part in value:
            spoiled(part)
    if isinstance(value, list):
        value.clear()


def told_twice(test, deed, *given):
    """What is told, with the checks that all answers owe: alike again, lists of their own, nothing changed."""
    before = deepcopy(given)
    told = deed(*given)
    test.assertEqual(given, before)
    wanted = deepcopy(told)
    spoiled(told)
    test.assertEqual(given, before)
    test.assertEqual(deed(*given), wanted)
    return wanted


def refusal_of(deed, *given):
    try:
        deed(*given)
    except SightError as refusal:
        return refusal
    return None


def refused_with(kind, deed, *given):
    return isinstance(refusal_of(deed, *given), kind)


def cross_of(one, other):
    return tuple(one[k - 2] * other[k - 1] - one[k - 1] * other[k - 2] for k in range(3))


def dot_of(one, other):
    return sum(mine * yours for mine, yours in zip(one, other))


def spot_on_frame(frame, place):
    u, v = number_of(place[0]), number_of(place[1])
    return tuple(at + u * right + v * up for at, right, up in zip(numbers_of(frame[1]), frame[2], frame[3]))


def ray_meets(frame, board, place):
    """How many arrows from the eye to the place on the ray meets the board, or None; reckoned afresh."""
    eye = numbers_of(frame[0])
    arrow = tuple(at - start for at, start in zip(spot_on_frame(frame, place), eye))
    corners = [numbers_of(corner) for corner in board]
    sides = [tuple(b - a for a, b in zip(corners[k - 1], corners[k])) for k in range(len(corners))]
    normal = cross_of(sides[1], sides[2])
    if dot_of(normal, arrow) == 0:
        return None
    s = dot_of(normal, [a - b for a, b in zip(corners[0], eye)]) / dot_of(normal, arrow)
    met = [start + s * part for start, part in zip(eye, arrow)]
    for k, side in enumerate(sides):
        if dot_of(normal, cross_of(side, [a - b for a, b in zip(met, corners[k - 1])])) < 0:
            return None
    return s if s > 0 else None


def drawn_place(draw, reach=1, most=7):
    places = []
    for _ in range(2):
        bottom = draw.randint(1, most)
        places.append(Fraction(draw.randint((1 - reach) * bottom, reach * bottom), bottom))
    return tuple((at.numerator, at.denominator) for at in places)


def drawn_frame(draw, reach=4):
    while True:
        eye, corner = drawn_spot(draw, reach, 2), drawn_spot(draw, reach, 2)
        across, up = [tuple(draw.randint(-reach, reach) for _ in range(3)) for _ in range(2)]
        try:
            return made_frame(eye, corner, across, up)
        except NoFrame:
            continue


def drawn_polygon(draw, reach=2, most=4):
    """The hull of some places, in its form."""
    while True:
        points = sorted({tuple(map(number_of, drawn_place(draw, reach, most))) for _ in range(draw.randint(3, 9))})
        hull = []
        for way in (points, points[::-1]):
            chain = []
            for point in way:
                while len(chain) > 1 and turn_of(chain[-2], chain[-1], point) <= 0:
                    chain.pop()
                chain.append(point)
            hull.extend(chain[:-1])
        if len(hull) > 2:
            return tuple(tuple((at.numerator, at.denominator) for at in point) for point in hull)


def turn_of(one, other, third):
    return (other[0] - one[0]) * (third[1] - one[1]) - (other[1] - one[1]) * (third[0] - one[0])


def points_of(polygon):
    return [tuple(map(number_of, place)) for place in polygon]


def check_polygon(test, polygon):
    """A tuple of places in lowest terms, convex, against the clock, the least one first."""
    test.assertIs(type(polygon), tuple)
    points = points_of(polygon)
    test.assertEqual(polygon, tuple(tuple((at.numerator, at.denominator) for at in point) for point in points))
    test.assertGreaterEqual(len(points), 3)
    test.assertEqual(points[0], min(points))
    for k, point in enumerate(points):
        for other in points:
            if other not in (points[k - 1], point):
                test.assertGreater(turn_of(points[k - 1], point, other), 0)


def where_in_polygon(polygon, place):
    points = points_of(polygon)
    at = tuple(map(number_of, place))
    least = min(turn_of(points[k - 1], points[k], at) for k in range(len(points)))
    return "within" if least > 0 else "rim" if least == 0 else "off"
