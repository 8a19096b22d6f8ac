"""What several test files need: numbers of many figures, boards drawn by a seeded draw, scenes, refusals."""

from copy import deepcopy
from fractions import Fraction

from boardsight.boards import made_board, plane_of
from boardsight.cuts import common_part, cut_by
from boardsight.errors import NoBoard, NoFrame, SightError
from boardsight.frames import made_frame
from boardsight.sights import does_hide, is_free
from boardsight.spots import made_spot, shared_spot

# Two thousand figures each: the most that is handed in.
MANY = 10 ** 2000 - 1
MANY_TOO = 10 ** 1999 + 7


def number_of(fraction):
    return Fraction(fraction[0], fraction[1])


def numbers_of(spot):
    return tuple(Fraction(number, spot[3]) for number in spot[:3])


def flat(pairs, z=0, w=1):
    return [made_spot(x, y, z, w) for x, y in pairs]


def flat_board(pairs, z=0, w=1):
    return made_board(flat(pairs, z, w))


def drawn_spot(draw, reach=9, most_w=3):
    numbers = [draw.randint(-reach, reach) for _ in range(3)]
    return made_spot(numbers[0], numbers[1], numbers[2], draw.randint(1, most_w))


def drawn_board(draw, reach=6, most_w=3, most_corners=5):
    while True:
        start, across, up = [[draw.randint(-reach, reach) for _ in range(3)] for _ in range(3)]
        w = draw.randint(1, most_w)
        corners = []
        for _ in range(draw.randint(3, most_corners)):
            u, v = draw.randint(-3, 3), draw.randint(-3, 3)
            x, y, z = [start[k] + u * across[k] + v * up[k] for k in range(3)]
            corners.append(made_spot(x, y, z, w))
        try:
            return made_board(corners)
        except NoBoard:
            continue


def drawn_scene(draw, many, reach=6, spot_reach=9):
    while True:
        boards = [drawn_board(draw, draw.choice([1, 2, reach])) for _ in range(many)]
        spot = drawn_spot(draw, spot_reach)
        if is_free(boards, spot):
            return boards, spot


def sheet(left, right, low, high, z):
    return flat_board([(left, low), (right, low), (right, high), (left, high)], z)


def plank(start, goal, low, high):
    """From start to goal and a bit beyond both, slanting up from low to high."""
    dx, dy = goal[0] - start[0], goal[1] - start[1]
    ends = [(start[0] * 8 - dx, start[1] * 8 - dy, low * 8), (goal[0] * 8 + dx, goal[1] * 8 + dy, high * 8)]
    (x, y, z), (far_x, far_y, far_z) = ends
    return made_board([
        made_spot(x + dy, y - dx, z, 8), made_spot(x - dy, y + dx, z, 8),
        made_spot(far_x - dy, far_y + dx, far_z, 8), made_spot(far_x + dy, far_y - dx, far_z, 8),
    ])


def wheel(points):
    """A plank along each side: seen from high up each one hides the next, and the last one the first."""
    return [plank(point, points[(k + 1) % len(points)], 0, 8) for k, point in enumerate(points)]


# From (0, 0, 0, 1) each one of these hides the other.
CROSS = [
    made_board([(-2, -2, 8, 1), (-2, 2, 8, 1), (2, 2, 12, 1), (2, -2, 12, 1)]),
    made_board([(-2, -2, 12, 1), (-2, 2, 12, 1), (2, 2, 8, 1), (2, -2, 8, 1)]),
]

FLOOR = sheet(-4, 4, -4, 4, 0)
LEFT_FLOOR = sheet(-4, 0, -4, 4, 0)
RIGHT_FLOOR = sheet(0, 4, -4, 4, 0)
# It stands across the floor, so each of the two cuts the other one into halves.
WALL = made_board([(0, -4, -4, 1), (0, 4, -4, 1), (0, 4, 4, 1), (0, -4, 4, 1)])
LOW_WALL = made_board([(0, -4, -4, 1), (0, 4, -4, 1), (0, 4, 0, 1), (0, -4, 0, 1)])
HIGH_WALL = made_board([(0, -4, 0, 1), (0, 4, 0, 1), (0, 4, 4, 1), (0, -4, 4, 1)])

HIGH_UP = (3, 2, 200, 1)
THREE_RING = wheel([(0, 0), (16, 0), (0, 16)])
FOUR_RING = wheel([(-16, -16), (16, -16), (16, 16), (-16, 16)])


def parts_of(pieces, plane, side):
    parts = [(number, cut_by(board, plane)[side]) for number, board in pieces]
    return [piece for piece in parts if piece[1] is not None]


def hides_later(boards, row, spot):
    """Whether in this row some board hides one that stands behind it."""
    return any(does_hide(boards[i], boards[j], spot) for k, i in enumerate(row) for j in row[k + 1:])


def do_share_area(boards):
    return any(plane_of(one) == plane_of(other) and common_part(one, other) is not None
               for k, one in enumerate(boards) for other in boards[:k])


def spoiled(value):
    """Empties all lists within, so that a list that is kept elsewhere would show it."""
    if isinstance(value, (list, tuple)):
        for part in value:
            spoiled(part)
    if isinstance(value, list):
        value.clear()


def told_twice(test, deed, *given):
    """What is told, with the checks that all answers owe: alike again, lists of their own, nothing changed."""
    before = deepcopy(given)
    told = deed(*given)
    test.assertEqual(given, before)
    wanted = deepcopy(told)
    spoiled(told)
    test.assertEqual(given, before)
    test.assertEqual(deed(*given), wanted)
    return wanted


def refusal_of(deed, *given):
    try:
        deed(*given)
    except SightError as refusal:
        return refusal
    return None


def refused_with(kind, deed, *given):
    return isinstance(refusal_of(deed, *given), kind)


def cross_of(one, other):
    return tuple(one[k - 2] * other[k - 1] - one[k - 1] * other[k - 2] for k in range(3))


def dot_of(one, other):
    return sum(mine * yours for mine, yours in zip(one, other))


def spot_on_frame(frame, place):
    u, v = number_of(place[0]), number_of(place[1])
    return tuple(at + u * right + v * up for at, right, up in zip(numbers_of(frame[1]), frame[2], frame[3]))


def ray_meets(frame, board, place):
    """How many arrows from the eye to the place on the ray meets the board, or None; reckoned afresh."""
    eye = numbers_of(frame[0])
    arrow = tuple(at - start for at, start in zip(spot_on_frame(frame, place), eye))
    corners = [numbers_of(corner) for corner in board]
    sides = [tuple(b - a for a, b in zip(corners[k - 1], corners[k])) for k in range(len(corners))]
    normal = cross_of(sides[1], sides[2])
    if dot_of(normal, arrow) == 0:
        return None
    s = dot_of(normal, [a - b for a, b in zip(corners[0], eye)]) / dot_of(normal, arrow)
    met = [start + s * part for start, part in zip(eye, arrow)]
    for k, side in enumerate(sides):
        if dot_of(normal, cross_of(side, [a - b for a, b in zip(met, corners[k - 1])])) < 0:
            return None
    return s if s > 0 else None


def drawn_place(draw, reach=1, most=7):
    places = []
    for _ in range(2):
        bottom = draw.randint(1, most)
        places.append(Fraction(draw.randint((1 - reach) * bottom, reach * bottom), bottom))
    return tuple((at.numerator, at.denominator) for at in places)


def drawn_frame(draw, reach=4):
    while True:
        eye, corner = drawn_spot(draw, reach, 2), drawn_spot(draw, reach, 2)
        across, up = [tuple(draw.randint(-reach, reach) for _ in range(3)) for _ in range(2)]
        try:
            return made_frame(eye, corner, across, up)
        except NoFrame:
            continue


def drawn_polygon(draw, reach=2, most=4):
    """The hull of some places, in its form."""
    while True:
        points = sorted({tuple(map(number_of, drawn_place(draw, reach, most))) for _ in range(draw.randint(3, 9))})
        hull = []
        for way in (points, points[::-1]):
            chain = []
            for point in way:
                while len(chain) > 1 and turn_of(chain[-2], chain[-1], point) <= 0:
                    chain.pop()
                chain.append(point)
            hull.extend(chain[:-1])
        if len(hull) > 2:
            return tuple(tuple((at.numerator, at.denominator) for at in point) for point in hull)


def turn_of(one, other, third):
    return (other[0] - one[0]) * (third[1] - one[1]) - (other[1] - one[1]) * (third[0] - one[0])


def points_of(polygon):
    return [tuple(map(number_of, place)) for place in polygon]


def check_polygon(test, polygon):
    """A tuple of places in lowest terms, convex, against the clock, the least one first."""
    test.assertIs(type(polygon), tuple)
    points = points_of(polygon)
    test.assertEqual(polygon, tuple(tuple((at.numerator, at.denominator) for at in point) for point in points))
    test.assertGreaterEqual(len(points), 3)
    test.assertEqual(points[0], min(points))
    for k, point in enumerate(points):
        for other in points:
            if other not in (points[k - 1], point):
                test.assertGreater(turn_of(points[k - 1], point, other), 0)


def where_in_polygon(polygon, place):
    points = points_of(polygon)
    at = tuple(map(number_of, place))
    least = min(turn_of(points[k - 1], points[k], at) for k in range(len(points)))
    return "within" if least > 0 else "rim" if least == 0 else "off"


def as_fraction(number):
    number = Fraction(number)
    return (number.numerator, number.denominator)


def as_place(u, v):
    return (as_fraction(u), as_fraction(v))


def as_polygon(*pairs):
    return tuple(as_place(u, v) for u, v in pairs)


def shifted(board, steps):
    return made_board([made_spot(x + steps[0] * w, y + steps[1] * w, z + steps[2] * w, w) for x, y, z, w in board])


def less_by(one, other):
    return tuple(mine - yours for mine, yours in zip(one, other))


def affine_by(told_at):
    """The numbers p, q, r with which p * u + q * v + r is what is told at (u, v), affine."""
    start = told_at((0, 0))
    return (told_at((1, 0)) - start, told_at((0, 1)) - start, start)


def arrow_to(frame, point):
    return less_by(spot_on_frame(frame, as_place(*point)), numbers_of(frame[0]))


def halves_of_board(frame, board):
    """Affine (p, q, r), one for each edge: a place's ray meets the board where all are from 0 on; reckoned afresh."""
    eye = numbers_of(frame[0])
    arms = [less_by(numbers_of(corner), eye) for corner in board]
    core = tuple(map(sum, zip(*arms)))
    halves = []
    for k, arm in enumerate(arms):
        normal = cross_of(arms[k - 1], arm)
        if dot_of(normal, core) < 0:
            normal = tuple(-part for part in normal)
        halves.append(affine_by(lambda point, normal=normal: dot_of(normal, arrow_to(frame, point))))
    return halves


def nearness_afresh(frame, board):
    eye = numbers_of(frame[0])
    corners = [numbers_of(corner) for corner in board[:3]]
    normal = cross_of(less_by(corners[1], corners[0]), less_by(corners[2], corners[0]))
    height = dot_of(normal, less_by(corners[0], eye))
    return affine_by(lambda point: dot_of(normal, arrow_to(frame, point)) / height)


def height_at(half, point):
    return half[0] * point[0] + half[1] * point[1] + half[2]


def clipped(points, half):
    """The part of a convex ring of points where the affine half is from 0 on."""
    part = []
    for k, point in enumerate(points):
        before = points[k - 1]
        was, now = height_at(half, before), height_at(half, point)
        if was * now < 0:
            share = was / (was - now)
            part.append(tuple(a + share * (b - a) for a, b in zip(before, point)))
        if now >= 0:
            part.append(point)
    return part


def all_clipped(points, halves):
    for half in halves:
        points = clipped(points, half)
    return points


def area_of_points(points):
    return sum(turn_of(points[0], points[k], points[k + 1]) for k in range(1, len(points) - 1)) / Fraction(2)


def rest_of_points(points, halves):
    """Convex rings that make up what is left of one without where all halves are from 0 on."""
    rest = []
    for half in halves:
        rest.append(clipped(points, tuple(-part for part in half)))
        points = clipped(points, half)
    return [ring for ring in rest if area_of_points(ring) > 0]


def halves_of_ring(points):
    halves = []
    for k, (u, v) in enumerate(points):
        p, q = points[k - 1][1] - v, u - points[k - 1][0]
        halves.append((p, q, -p * u - q * v))
    return halves


def are_apart(rings):
    edges = [halves_of_ring(ring) for ring in rings]
    return all(area_of_points(all_clipped(ring, edges[j])) == 0 for k, ring in enumerate(rings) for j in range(k))


def fill_the_frame(tiles):
    """Whether the polygons lie in the frame, no two with area in common, and come to it all."""
    rings = [points_of(polygon) for number, polygon in tiles]
    if not all(0 <= at <= 1 for ring in rings for point in ring for at in point):
        return False
    return sum(map(area_of_points, rings)) == 1 and are_apart(rings)


def is_picture(frame, boards, tiles):
    """What point 21 asks of a picture, reckoned afresh."""
    halves = [halves_of_board(frame, board) for board in boards]
    nears = [nearness_afresh(frame, board) for board in boards]
    for number, polygon in tiles:
        ring = points_of(polygon)
        if number is None:
            if any(area_of_points(all_clipped(ring, mine)) > 0 for mine in halves):
                return False
        elif not 0 <= number < len(boards):
            return False
        elif not all(height_at(half, point) >= 0 for half in halves[number] for point in ring):
            return False
        else:
            for other in range(len(boards)):
                gain = less_by(nears[other], nears[number])
                if other == number or (gain == (0, 0, 0) and other > number):
                    continue
                if area_of_points(all_clipped(ring, halves[other] + [gain])) > 0:
                    return False
    return fill_the_frame(tiles)


def point_at(way, t):
    """The numbers of the spot at the moment t, a Fraction; reckoned afresh, like all below."""
    start, goal = map(numbers_of, way)
    return tuple(a + t * (b - a) for a, b in zip(start, goal))


def height_of(plane, point):
    return dot_of(plane[:3], point) - plane[3]


def least_turn(board, point):
    """Above 0 within the board, 0 on its rim, below 0 elsewhere in its plane; None off its plane."""
    corners = [numbers_of(corner) for corner in board]
    normal = cross_of(less_by(corners[1], corners[0]), less_by(corners[2], corners[0]))
    if dot_of(normal, less_by(point, corners[0])) != 0:
        return None
    return min(dot_of(normal, cross_of(less_by(corners[k], corners[k - 1]), less_by(point, corners[k - 1])))
               for k in range(len(corners)))


def is_strictly_between(near, point, far):
    ahead, back = less_by(far, near), less_by(point, near)
    return cross_of(ahead, back) == (0, 0, 0) and dot_of(ahead, back) < 0


def is_right_sight(one, other, point, near, far):
    near, far = numbers_of(near), numbers_of(far)
    turns = (least_turn(one, near), least_turn(other, far))
    return None not in turns and min(turns) > 0 and is_strictly_between(near, point, far)


def parts_from(plane, one, other, point):
    return (all(height_of(plane, numbers_of(corner)) >= 0 for corner in one)
            and all(height_of(plane, numbers_of(corner)) <= 0 for corner in other)
            and height_of(plane, point) <= 0)


def part_at_some_moment(early, late, way):
    """Whether at some moment one is above neither plane: at an end, or else where one crosses one of them."""
    moments = {Fraction(0), Fraction(1)}
    for plane in (early, late):
        begin, end = [height_of(plane, numbers_of(spot)) for spot in way]
        if begin * end < 0:
            moments.add(begin / (begin - end))
    return any(height_of(early, point_at(way, t)) <= 0 and height_of(late, point_at(way, t)) <= 0 for t in moments)


def is_right_end(one, other, way, moment, paper, end):
    plane, near, far = paper
    point = point_at(way, moment)
    if plane is None:
        return moment == end and is_right_sight(one, other, point, near, far)
    near, far = numbers_of(near), numbers_of(far)
    turns = (least_turn(one, near), least_turn(other, far))
    return (parts_from(plane, one, other, point_at(way, end)) and height_of(plane, point) == 0
            and None not in turns and min(turns) >= 0
            and (near == point or is_strictly_between(near, point, far)))


def is_right_stretch(one, other, way, told):
    """What point 24 asks of a paper."""
    if told[0] == "never":
        return (parts_from(told[1], one, other, numbers_of(way[0]))
                and parts_from(told[2], one, other, numbers_of(way[1])) and part_at_some_moment(told[1], told[2], way))
    low, high, moment = number_of(told[1]), number_of(told[2]), number_of(told[5][0])
    if not 0 <= low < moment < high <= 1:
        return False
    point = point_at(way, moment)
    return (is_right_end(one, other, way, low, told[3], 0) and is_right_end(one, other, way, high, told[4], 1)
            and least_turn(one, point) is None and least_turn(other, point) is None
            and is_right_sight(one, other, point, told[5][1], told[5][2]))


def drawn_way(draw, boards, reach=9):
    """Of two unlike spots, both free of the boards; often one that goes through a corner or along an edge."""
    while True:
        start = drawn_spot(draw, draw.choice([2, 4, reach]))
        goal = drawn_spot(draw, draw.choice([2, 4, reach]))
        if boards and draw.random() < 0.4:
            board = draw.choice(boards)
            through = draw.choice([board[0], board[-1], shared_spot(board[0], board[1], (1, 2))])
            goal = shared_spot(start, through, as_fraction(Fraction(draw.randint(1, 6), draw.randint(1, 4))))
        if start != goal and is_free(boards, start) and is_free(boards, goal):
            return (start, goal)
