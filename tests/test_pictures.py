import random
import unittest
from fractions import Fraction

from boardsight.boards import made_board
from boardsight.errors import NotFree
from boardsight.frames import image_of, made_frame
from boardsight.loosening import loosened
from boardsight.pictures import painting_of, shares_of, tiles_judged, tiles_of
from boardsight.polygons import area_of, halved_by, left_of
from boardsight.ratios import total_of
from boardsight.sights import is_free
from boardsight.trees import painted_by, tree_of
from boardsight.views import seen_at
from helper import (
    CROSS, FLOOR, FOUR_RING, HIGH_UP, MANY, THREE_RING, WALL, all_clipped, area_of_points, as_polygon, check_polygon,
    do_share_area, drawn_board, drawn_frame, fill_the_frame, halves_of_board, hides_later, is_picture, number_of,
    points_of, refusal_of, rest_of_points, sheet, shifted, told_twice,
)

EYE = (0, 0, 0, 1)
# Two wide and two high, one before the eye: x by z and y by z go from -1 to 1.
FRAME = made_frame(EYE, (-1, -1, 1, 1), (2, 0, 0), (0, 2, 0))
WHOLE = as_polygon((0, 0), (1, 0), (1, 1), (0, 1))
FROM_ABOVE = made_frame(HIGH_UP, (-30, -30, 0, 1), (60, 0, 0), (0, 60, 0))
HALF = Fraction(1, 2)
SLANTED = made_frame((9, -7, 11, 2), (2, -3, 4, 3), (-3, 2, -1), (1, 4, -2))

NEAR, FAR = sheet(-2, 2, -2, 2, 4), sheet(-6, 6, -6, 6, 8)
LEFT, RIGHT = sheet(-4, 0, -4, 4, 4), sheet(0, 4, -4, 4, 4)
NARROW, WIDE = sheet(-1, 1, -1, 1, 4), sheet(-2, 2, -2, 2, 4)
BEHIND = sheet(-1, 1, -1, 1, -3)
BESIDE = sheet(9, 12, -1, 1, 4)
ON_THE_RIM = sheet(4, 9, -1, 1, 4)
FIN = made_board([(0, -1, 9, 1), (0, 1, 9, 1), (3, 1, 12, 1), (3, -1, 12, 1)])
FLAT_BELOW = made_board([(-20, -1, -30, 1), (20, -1, -30, 1), (20, -1, 30, 1), (-20, -1, 30, 1)])

SCENES = {
    "none at all": (FRAME, []),
    "one": (FRAME, [NEAR]),
    "one that fills the frame": (FRAME, [sheet(-9, 9, -9, 9, 3)]),
    "one behind the other": (FRAME, [NEAR, FAR]),
    "one before the other": (FRAME, [FAR, NEAR]),
    "wholly hidden": (FRAME, [sheet(-1, 1, -1, 1, 9), NEAR]),
    "crossing": (FRAME, CROSS),
    "crossing, the other way round": (FRAME, CROSS[::-1]),
    "three along one line": (FRAME, [sheet(-1, 1, -1, 1, 10)] + CROSS),
    "touching along an edge": (FRAME, [LEFT, RIGHT]),
    "touching the face of another one": (FRAME, [FIN, sheet(-9, 9, -9, 9, 9)]),
    "in one plane, the small one first": (FRAME, [NARROW, WIDE]),
    "in one plane, the great one first": (FRAME, [WIDE, NARROW]),
    "in one plane, partly": (FRAME, [sheet(-2, 1, -2, 1, 4), sheet(-1, 2, -1, 2, 4), sheet(-3, 3, 0, 1, 4)]),
    "the same twice": (FRAME, [NEAR, NEAR]),
    "behind the eye": (FRAME, [BEHIND, NEAR]),
    "beside the frame": (FRAME, [BESIDE, ON_THE_RIM]),
    "around the eye": (FRAME, [sheet(-50, 50, -50, 50, 10), FLAT_BELOW]),
    "a ring of three": (FROM_ABOVE, THREE_RING),
    "a ring of four": (FROM_ABOVE, FOUR_RING),
    "five": (SLANTED, [FLOOR, WALL, FIN, CROSS[0], THREE_RING[0]]),
}


def drawn_boards(draw, most):
    boards = [drawn_board(draw, draw.choice([1, 2, 3]), 2) for _ in range(draw.randint(0, most))]
    boards = [shifted(board, (0, 0, draw.choice([0, 7]))) for board in boards]
    if len(boards) > 1 and draw.random() < 0.2:
        boards[-1] = boards[0]
    return boards


def drawn_pictures(seed, many, most=5):
    draw = random.Random(seed)
    while many:
        frame = draw.choice([FRAME, drawn_frame(draw)])
        boards = drawn_boards(draw, most)
        if is_free(boards, frame[0]):
            many -= 1
            yield draw, frame, boards


def without_a_corner(draw, polygon):
    """Or the polygon itself, where it is a triangle."""
    if len(polygon) == 3:
        return polygon
    k = draw.randrange(len(polygon))
    left = polygon[:k] + polygon[k + 1:]
    first = points_of(left).index(min(points_of(left)))
    return left[first:] + left[:first]


def by_area(tiles):
    areas = {}
    for number, polygon in tiles:
        areas[number] = areas.get(number, 0) + number_of(area_of(polygon))
    return areas


class TilesTest(unittest.TestCase):
    def tiles(self, frame, boards):
        told = told_twice(self, tiles_of, frame, boards)
        self.assertIs(type(told), list)
        for tile in told:
            self.assertIs(type(tile), tuple)
            check_polygon(self, tile[1])
        self.assertTrue(is_picture(frame, boards, told))
        self.assertIs(told_twice(self, tiles_judged, frame, boards, told), True)
        self.check_seen(frame, boards, told)
        shares = told_twice(self, shares_of, frame, boards)
        self.assertEqual(shares, [total_of([area_of(one) for mine, one in told if mine == number])
                                  for number in range(len(boards))])
        return told

    def check_seen(self, frame, boards, told):
        """At a place within each tile, by odd weights so that no line where boards cross is met."""
        for number, polygon in told:
            weights = [101 + 37 * k * k for k in range(len(polygon))]
            place = tuple(sum(w * point[side] for w, point in zip(weights, points_of(polygon))) / sum(weights)
                          for side in range(2))
            self.assertEqual(seen_at(frame, boards, as_polygon(place)[0]), number)

    def test_scenes(self):
        for name, (frame, boards) in SCENES.items():
            with self.subTest(name):
                self.tiles(frame, boards)

    def test_no_boards(self):
        told = self.tiles(FRAME, [])
        self.assertEqual({number for number, polygon in told}, {None})
        self.assertEqual(by_area(told), {None: 1})

    def test_one_that_fills_the_frame(self):
        self.assertEqual(by_area(self.tiles(*SCENES["one that fills the frame"])), {0: 1})

    def test_drawn_ones(self):
        most = 0
        for draw, frame, boards in drawn_pictures(91, 120):
            most = max(most, len(self.tiles(frame, boards)))
        self.assertGreater(most, 15)

    def test_many_figures(self):
        needle = made_board([(-1, -1, MANY, 1), (1, -1, MANY, 1), (1, 1, MANY, 1), (-1, 1, MANY, 1)])
        told = self.tiles(FRAME, [needle, sheet(-MANY, MANY, -MANY, MANY, MANY + 1)])
        hair = Fraction(1, MANY)
        self.assertEqual(by_area(told), {0: hair ** 2, 1: Fraction(MANY, MANY + 1) ** 2 - hair ** 2,
                                         None: 1 - Fraction(MANY, MANY + 1) ** 2})


class SharesTest(unittest.TestCase):
    def shares(self, name):
        told = told_twice(self, shares_of, *SCENES[name])
        self.assertIs(type(told), list)
        return [Fraction(top, bottom) for top, bottom in told]

    def test_known_ones(self):
        quarter = Fraction(1, 4)
        for name, wanted in (
            ("none at all", []), ("one", [quarter]), ("one that fills the frame", [1]),
            ("one behind the other", [quarter, Fraction(9, 16) - quarter]),
            ("one before the other", [Fraction(9, 16) - quarter, quarter]),
            ("wholly hidden", [0, quarter]), ("touching along an edge", [HALF, HALF]),
            ("in one plane, the small one first", [Fraction(1, 16), Fraction(3, 16)]),
            ("in one plane, the great one first", [quarter, 0]), ("the same twice", [quarter, 0]),
            ("behind the eye", [0, quarter]), ("beside the frame", [0, 0]),
            ("touching the face of another one", [0, 1]),
        ):
            self.assertEqual(self.shares(name), wanted, name)

    def test_crossing_ones_share_alike(self):
        one, other = self.shares("crossing")
        self.assertEqual(one, other)
        self.assertGreater(one, 0)
        self.assertEqual(self.shares("three along one line")[1:], [one, other])
        self.assertEqual(self.shares("three along one line")[0], 0)

    def test_in_lowest_terms(self):
        for number in shares_of(FRAME, [NEAR, BEHIND]):
            self.assertEqual(number, as_polygon((Fraction(*number), 0))[0][0])


class JudgeTest(unittest.TestCase):
    def judged(self, frame, boards, tiles):
        told = told_twice(self, tiles_judged, frame, boards, tiles)
        self.assertIs(type(told), bool)
        self.assertEqual(told, is_picture(frame, boards, tiles))
        return told

    def test_made_by_hand(self):
        left, right = as_polygon((0, 0), (HALF, 0), (HALF, 1), (0, 1)), as_polygon((HALF, 0), (1, 0), (1, 1), (HALF, 1))
        self.assertTrue(self.judged(FRAME, [], [(None, WHOLE)]))
        self.assertTrue(self.judged(FRAME, [], [(None, right), (None, left)]))
        self.assertTrue(self.judged(FRAME, [LEFT, RIGHT], [(0, left), (1, right)]))
        self.assertFalse(self.judged(FRAME, [LEFT, RIGHT], [(1, left), (0, right)]))
        self.assertFalse(self.judged(FRAME, [LEFT, RIGHT], [(0, left), (1, right), (1, right)]))
        self.assertFalse(self.judged(FRAME, [LEFT, RIGHT], [(0, left)]))
        self.assertFalse(self.judged(FRAME, [LEFT, RIGHT], [(0, WHOLE)]))
        self.assertFalse(self.judged(FRAME, [], []))
        self.assertFalse(self.judged(FRAME, [], [(0, WHOLE)]))
        self.assertTrue(self.judged(FRAME, [BEHIND, BESIDE, ON_THE_RIM], [(None, WHOLE)]))

    def test_however_it_is_parted(self):
        """Each tile parted along a line of its own, and these told in another order."""
        for name, (frame, boards) in SCENES.items():
            parted = []
            for k, (number, polygon) in enumerate(tiles_of(frame, boards)):
                p, q, r = (k + 1, 7), (2 - k, 5), (-1, 3)
                turned = [(-top, bottom) for top, bottom in (p, q, r)]
                halves = (halved_by(polygon, p, q, r), halved_by(polygon, *turned))
                parted = [(number, half) for half in halves if half is not None] + parted
            with self.subTest(name):
                self.assertTrue(self.judged(frame, boards, parted))

    def test_wrong_ones(self):
        for name, (frame, boards) in SCENES.items():
            tiles = tiles_of(frame, boards)
            for k in range(0, len(tiles), len(tiles) // 6 + 1):
                number, polygon = tiles[k]
                rest = tiles[:k] + tiles[k + 1:]
                moved = tuple(((u[0] + u[1], u[1]), v) for u, v in polygon)
                wrong = [rest, rest + [(number, polygon)] * 2, rest + [(number, moved)], rest + [(-1, polygon)],
                         rest + [(len(boards), polygon)], tiles + [(number, moved)]]
                if number is not None:
                    wrong.append(rest + [(None, polygon)])
                with self.subTest(name, tile=k):
                    for told in wrong:
                        self.assertFalse(self.judged(frame, boards, told))
                    for other in range(len(boards)):
                        self.assertEqual(self.judged(frame, boards, rest + [(other, polygon)]), other == number)

    def test_two_tiles_that_overlap_with_a_gap_of_the_same_area(self):
        low, high = as_polygon((0, 0), (HALF, 0), (HALF, 1), (0, 1)), as_polygon((0, 0), (1, 0), (1, HALF), (0, HALF))
        self.assertFalse(self.judged(FRAME, [], [(None, low), (None, high)]))
        board = sheet(-9, 9, -9, 9, 3)
        self.assertFalse(self.judged(FRAME, [board], [(0, low), (0, high)]))
        self.assertFalse(self.judged(FRAME, [board], [(0, low), (0, low)]))

    def test_beyond_the_frame(self):
        board = sheet(-99, 99, -99, 99, 3)
        for pairs in (
            [(-1, 0), (0, 0), (0, 1), (-1, 1)], [(0, 1), (1, 1), (1, 2), (0, 2)], [(0, -1), (1, -1), (1, 0), (0, 0)],
            [(HALF, 0), (3 * HALF, 0), (3 * HALF, 1), (HALF, 1)],
        ):
            self.assertFalse(self.judged(FRAME, [board], [(0, as_polygon(*pairs))]))
            self.assertFalse(self.judged(FRAME, [], [(None, as_polygon(*pairs))]))

    def test_beyond_where_its_board_is_the_nearest(self):
        """Both fill the frame and cross half way across; the line between their tiles is moved by a hair."""
        frame = made_frame(EYE, (-1, -1, 8, 1), (2, 0, 0), (0, 2, 0))
        for shift in (0, Fraction(1, 10 ** 30), Fraction(-1, 10 ** 30)):
            at = HALF + shift
            left = as_polygon((0, 0), (at, 0), (at, 1), (0, 1))
            right = as_polygon((at, 0), (1, 0), (1, 1), (at, 1))
            self.assertEqual(self.judged(frame, CROSS, [(0, left), (1, right)]), shift == 0)

    def test_beyond_its_image(self):
        image = image_of(FRAME, NEAR)
        around = [(None, part) for part in left_of(WHOLE, image)]
        self.assertTrue(self.judged(FRAME, [NEAR], around + [(0, image)]))
        hair = Fraction(1, 10 ** 30)
        low, high = Fraction(1, 4), Fraction(3, 4)
        for more in (hair, -hair):
            other = as_polygon((low - more, low), (high, low), (high, high), (low - more, high))
            around = [(None, part) for part in left_of(WHOLE, other)]
            self.assertFalse(self.judged(FRAME, [NEAR], around + [(0, other)]))

    def test_drawn_ones(self):
        answers = []
        for draw, frame, boards in drawn_pictures(92, 60, 4):
            tiles = tiles_of(frame, boards)
            for _ in range(3):
                k = draw.randrange(len(tiles))
                number = draw.choice([tiles[k][0], None, 0, 1])
                told = tiles[:k] + [(number, without_a_corner(draw, tiles[k][1]))] + tiles[k + 1:]
                answers.append(self.judged(frame, boards, told))
        self.assertIn(True, answers)
        self.assertIn(False, answers)


class PaintingTest(unittest.TestCase):
    def painting(self, frame, pieces):
        told = told_twice(self, painting_of, frame, pieces)
        self.assertIs(type(told), list)
        for tile in told:
            self.assertIs(type(tile), tuple)
            check_polygon(self, tile[1])
        self.check_painted(frame, pieces, told)
        return told

    def check_painted(self, frame, pieces, told):
        """Within each tile just the pieces of its number, and of None nothing, are on top; reckoned afresh."""
        self.assertTrue(fill_the_frame(told))
        halves = [halves_of_board(frame, board) for number, board in pieces]
        for number, polygon in told:
            ring = points_of(polygon)
            if number is None:
                for mine in halves:
                    self.assertEqual(area_of_points(all_clipped(ring, mine)), 0)
                continue
            on_top = 0
            for place, piece in enumerate(pieces):
                if piece[0] == number:
                    shown = [all_clipped(ring, halves[place])]
                    for later in halves[place + 1:]:
                        shown = [rest for part in shown for rest in rest_of_points(part, later)]
                    on_top += sum(map(area_of_points, shown))
            self.assertEqual(on_top, area_of_points(ring))

    def test_no_pieces(self):
        self.assertEqual(by_area(self.painting(FRAME, [])), {None: 1})

    def test_what_stands_later_is_over_what_stands_ahead(self):
        quarter, nine = Fraction(1, 4), Fraction(9, 16)
        self.assertEqual(by_area(self.painting(FRAME, [(0, FAR), (1, NEAR)])),
                         {0: nine - quarter, 1: quarter, None: 1 - nine})
        self.assertEqual(by_area(self.painting(FRAME, [(1, NEAR), (0, FAR)])), {0: nine, None: 1 - nine})

    def test_numbers_of_any_kind(self):
        told = self.painting(FRAME, [(7, FAR), (-3, NEAR)])
        self.assertEqual({number for number, polygon in told}, {None, 7, -3})

    def test_like_numbers(self):
        told = self.painting(FRAME, [(5, FAR), (2, NEAR), (5, sheet(-1, 1, -1, 1, 4)), (2, sheet(-8, 0, -8, 0, 8))])
        quarter = Fraction(1, 4)
        small = Fraction(1, 16)
        self.assertEqual(by_area(told), {
            2: quarter - small + quarter - small + small * Fraction(1, 4),
            5: Fraction(9, 16) - quarter - (Fraction(9, 64) - small) + small * Fraction(3, 4),
            None: 1 - Fraction(9, 16) - (quarter - Fraction(9, 64)),
        })

    def test_the_same_piece_again(self):
        for number in (0, 1):
            told = self.painting(FRAME, [(0, NEAR), (number, NEAR)])
            self.assertEqual(by_area(told), {number: Fraction(1, 4), None: Fraction(3, 4)})

    def test_without_an_image(self):
        self.assertEqual(by_area(self.painting(FRAME, [(0, BEHIND), (1, BESIDE), (2, ON_THE_RIM)])), {None: 1})

    def test_sixteen_pieces(self):
        pieces = [(k % 5, shifted(CROSS[k % 2], (k - 8, 5 - k, k % 3))) for k in range(16)]
        self.assertEqual(len({number for number, polygon in self.painting(FRAME, pieces)}), 6)

    def test_scenes_and_drawn_ones(self):
        for frame, boards in SCENES.values():
            self.painting(frame, list(enumerate(boards)))
        for draw, frame, boards in drawn_pictures(93, 60):
            self.painting(frame, [(draw.randint(0, 2), board) for board in boards])


class PaintedPictureTest(unittest.TestCase):
    """A painting of pieces that fill boards, in a right order, is a picture of the boards."""

    def check(self, frame, boards):
        pieces, row = loosened(boards[:4], frame[0])
        painting = painting_of(frame, [pieces[place] for place in row])
        self.assertTrue(tiles_judged(frame, boards[:4], painting))
        self.assertTrue(is_picture(frame, boards[:4], painting))
        some = list(enumerate(boards))
        for tree in (tree_of(some), tree_of(some, [number for number, board in reversed(some)])):
            painting = painting_of(frame, painted_by(tree, frame[0]))
            self.assertTrue(tiles_judged(frame, boards, painting))
        shares = [by_area(painting).get(number, 0) for number in range(len(boards))]
        self.assertEqual([Fraction(*share) for share in shares_of(frame, boards)], shares)

    def test_scenes(self):
        for name, (frame, boards) in SCENES.items():
            if not do_share_area(boards):
                with self.subTest(name):
                    self.check(frame, boards)

    def test_drawn_ones(self):
        tried = 0
        for draw, frame, boards in drawn_pictures(94, 60):
            if not do_share_area(boards):
                self.check(frame, boards)
                tried += 1
        self.assertGreater(tried, 30)

    def test_a_wrong_order_paints_no_picture(self):
        self.assertFalse(tiles_judged(FRAME, [NEAR, FAR], painting_of(FRAME, [(0, NEAR), (1, FAR)])))
        pieces, row = loosened(CROSS, EYE)
        for order in ([0, 1, 2], [2, 1, 0], [1, 0, 2], [0, 2, 1], [1, 2, 0], [2, 0, 1]):
            painting = painting_of(FRAME, [pieces[place] for place in order])
            hidden = hides_later([board for number, board in pieces], order, EYE)
            self.assertEqual(tiles_judged(FRAME, CROSS, painting), not hidden)


class NotFreeTest(unittest.TestCase):
    def test_the_first_board(self):
        level = sheet(7, 8, 7, 8, 0)
        for boards, number in (([level], 0), ([NEAR, level], 1), ([NEAR, FAR, level, NEAR, level], 2)):
            pieces = [(50 - k, board) for k, board in enumerate(boards)]
            for deed, given in (
                (tiles_of, (boards,)), (shares_of, (boards,)), (tiles_judged, (boards, [])),
                (tiles_judged, (boards, [(99, WHOLE)])), (painting_of, (pieces,)),
            ):
                refusal = refusal_of(deed, FRAME, *given)
                self.assertIsInstance(refusal, NotFree)
                self.assertEqual(refusal.board, number)


if __name__ == "__main__":
    unittest.main()
