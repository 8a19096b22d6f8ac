import random
import unittest
from fractions import Fraction

from boardsight.boards import made_board
from boardsight.errors import NotFree
from boardsight.frames import image_of, made_frame
from boardsight.sights import is_free
from boardsight.views import row_at, seen_at
from helper import (
    CROSS, FOUR_RING, MANY, drawn_board, drawn_frame, drawn_place, number_of, ray_meets, refusal_of, sheet,
    shifted, told_twice,
)

EYE = (0, 0, 0, 1)
# Two wide and two high, one before the eye: x by z and y by z go from -1 to 1.
FRAME = made_frame(EYE, (-1, -1, 1, 1), (2, 0, 0), (0, 2, 0))
MIDDLE = ((1, 2), (1, 2))


def at(u, v):
    return tuple((Fraction(one).numerator, Fraction(one).denominator) for one in (u, v))


def seen_by_rays(frame, boards, place):
    met = [(ray_meets(frame, board, place), number) for number, board in enumerate(boards)]
    return min([one for one in met if one[0] is not None], default=(0, None))[1]


class SeenTest(unittest.TestCase):
    def seen(self, boards, place, frame=FRAME):
        told = told_twice(self, seen_at, frame, boards, place)
        self.assertEqual(told, seen_by_rays(frame, boards, place))
        return told

    def test_none(self):
        self.assertIsNone(self.seen([], MIDDLE))
        self.assertIsNone(self.seen([sheet(3, 4, 3, 4, 5)], MIDDLE))
        self.assertIsNone(self.seen([sheet(-1, 1, -1, 1, -5)], MIDDLE))

    def test_the_nearest(self):
        boards = [sheet(-1, 1, -1, 1, depth) for depth in (7, 5, 9, 6, 8, 10)]
        self.assertEqual(self.seen(boards, MIDDLE), 1)
        self.assertEqual(self.seen(boards[:1] + boards[2:], MIDDLE), 2)
        self.assertEqual(self.seen([sheet(-1, 1, -1, 1, -2)] + boards, MIDDLE), 2)

    def test_equally_near(self):
        one, other = sheet(-1, 1, -1, 1, 5), sheet(-2, 2, -2, 2, 5)
        self.assertEqual(self.seen([one, other], MIDDLE), 0)
        self.assertEqual(self.seen([other, one], MIDDLE), 0)
        self.assertEqual(self.seen([sheet(-9, 9, -9, 9, 6), other, one], MIDDLE), 1)
        self.assertEqual(self.seen(CROSS, MIDDLE), 0)
        self.assertEqual(self.seen(CROSS[::-1], MIDDLE), 0)
        self.assertEqual(self.seen(CROSS, at(Fraction(55, 100), Fraction(1, 2))), 1)

    def test_rims_and_corners(self):
        board = sheet(-2, 2, -2, 2, 4)
        low, high = Fraction(1, 4), Fraction(3, 4)
        for u in (low, Fraction(1, 2), high):
            for v in (low, Fraction(1, 2), high):
                self.assertEqual(self.seen([board], at(u, v)), 0)
                self.assertEqual(self.seen([sheet(-9, 9, -9, 9, 5), board], at(u, v)), 1)
        hair = Fraction(1, MANY)
        self.assertIsNone(self.seen([board], at(low - hair, low)))
        self.assertIsNone(self.seen([board], at(low, low - hair)))
        self.assertIsNone(self.seen([board], at(high + hair, high)))
        self.assertEqual(self.seen([board], at(high - hair, low + hair)), 0)

    def test_on_the_frames_rim_alone(self):
        board = sheet(2, 9, -1, 1, 2)
        self.assertIsNone(image_of(FRAME, board))
        self.assertEqual(self.seen([board], at(1, Fraction(1, 2))), 0)
        self.assertIsNone(self.seen([board], at(Fraction(99, 100), Fraction(1, 2))))

    def test_beyond_the_frame(self):
        self.assertEqual(self.seen([sheet(8, 9, -9, -8, 1)], at(Fraction(19, 4), Fraction(-15, 4))), 0)
        self.assertIsNone(self.seen([sheet(8, 9, -9, -8, -1)], at(Fraction(19, 4), Fraction(-15, 4))))
        self.assertIsNone(self.seen([sheet(-9, -8, 8, 9, -1)], at(Fraction(19, 4), Fraction(-15, 4))))
        self.assertEqual(self.seen([sheet(-MANY, MANY, -1, 1, 1)], at(MANY // 2, Fraction(1, 2))), 0)

    def test_around_and_behind_the_eye(self):
        floor = made_board([(-20, -1, -30, 1), (20, -1, -30, 1), (20, -1, 30, 1), (-20, -1, 30, 1)])
        wall = sheet(-50, 50, -50, 50, 10)
        self.assertEqual(self.seen([wall, floor], at(Fraction(1, 2), 0)), 1)
        self.assertEqual(self.seen([wall, floor], at(Fraction(1, 2), Fraction(46, 100))), 0)
        self.assertEqual(self.seen([wall, floor], at(Fraction(1, 2), Fraction(44, 100))), 1)
        self.assertEqual(self.seen([wall, floor], at(Fraction(1, 2), 1)), 0)

    def test_drawn_ones(self):
        draw = random.Random(81)
        numbers = []
        for _ in range(120):
            frame = drawn_frame(draw)
            boards = [drawn_board(draw, draw.choice([1, 3])) for _ in range(draw.randint(1, 6))]
            if draw.random() < 0.3:
                boards.insert(0, boards[-1])
            boards = boards[:6]
            if is_free(boards, frame[0]):
                for _ in range(6):
                    numbers.append(self.seen(boards, drawn_place(draw, draw.choice([1, 4])), frame))
        self.assertGreater(len([number for number in numbers if number]), 60)

    def test_on_rims_drawn(self):
        draw = random.Random(82)
        for _ in range(60):
            frame = drawn_frame(draw)
            boards = [drawn_board(draw, 3) for _ in range(3)]
            if is_free(boards, frame[0]):
                for board in boards:
                    for place in image_of(frame, board) or ():
                        self.assertIsNotNone(self.seen(boards, place, frame))

    def test_not_free(self):
        level = sheet(7, 8, 7, 8, 0)
        wall = sheet(-1, 1, -1, 1, 5)
        for boards, number in (([level], 0), ([wall, level], 1), ([wall, wall, level, wall, level], 2)):
            for deed, more in ((seen_at, MIDDLE), (seen_at, at(9, 9)), (row_at, (1, 2))):
                refusal = refusal_of(deed, FRAME, boards, more)
                self.assertIsInstance(refusal, NotFree)
                self.assertEqual(refusal.board, number)


class RowTest(unittest.TestCase):
    def row(self, boards, v=Fraction(1, 2), frame=FRAME):
        height = (Fraction(v).numerator, Fraction(v).denominator)
        told = told_twice(self, row_at, frame, boards, height)
        self.assertIs(type(told), list)
        self.assertEqual([type(one) for one in told], [tuple] * len(told))
        self.check_ends(told)
        self.check_seen(boards, height, frame, told)
        return [(number_of(low), number_of(high), number) for low, high, number in told]

    def check_ends(self, told):
        before = Fraction(0)
        for k, (low, high, number) in enumerate(told):
            self.assertEqual((low, high), at(number_of(low), number_of(high)))
            self.assertLessEqual(before, number_of(low))
            self.assertLess(number_of(low), number_of(high))
            if k > 0 and told[k - 1][1] == low:
                self.assertNotEqual(told[k - 1][2], number)
            before = number_of(high)
        self.assertLessEqual(before, 1)

    def check_seen(self, boards, height, frame, told):
        """Some places of each stretch and of each gap, at odd shares so that no single odd place is met."""
        ends = [Fraction(0)]
        for low, high, number in told:
            ends.extend([number_of(low), number_of(high)])
        ends.append(Fraction(1))
        numbers = [None]
        for low, high, number in told:
            numbers.extend([number, None])
        for low, high, number in zip(ends, ends[1:], numbers):
            if low < high:
                for share in (Fraction(17, 1009), Fraction(307, 911), Fraction(499, 997), Fraction(1013, 1021)):
                    place = at(low + share * (high - low), number_of(height))
                    self.assertEqual(seen_by_rays(frame, boards, place), number)

    def test_none(self):
        self.assertEqual(self.row([]), [])
        self.assertEqual(self.row([sheet(3, 4, 3, 4, 2)]), [])
        self.assertEqual(self.row([sheet(-1, 1, -1, 1, -2)]), [])
        self.assertEqual(self.row([sheet(-1, 1, -1, 1, 4)], 0), [])

    def test_one_board(self):
        self.assertEqual(self.row([sheet(-2, 1, -1, 1, 4)]), [(Fraction(1, 4), Fraction(5, 8), 0)])
        self.assertEqual(self.row([sheet(-20, 1, -1, 1, 4)]), [(0, Fraction(5, 8), 0)])
        self.assertEqual(self.row([sheet(-20, 20, -1, 1, 4)]), [(0, 1, 0)])
        self.assertEqual(self.row([sheet(-20, 20, -20, 20, 4)], 0), [(0, 1, 0)])
        self.assertEqual(self.row([sheet(-20, 20, -20, 20, 4)], 1), [(0, 1, 0)])

    def test_one_behind_the_other(self):
        near, far = sheet(-2, 2, -9, 9, 4), sheet(-6, 6, -9, 9, 8)
        ends = [Fraction(1, 8), Fraction(1, 4), Fraction(3, 4), Fraction(7, 8)]
        for boards, numbers in (([near, far], (1, 0, 1)), ([far, near], (0, 1, 0))):
            self.assertEqual(self.row(boards), list(zip(ends, ends[1:], numbers)))
        self.assertEqual(self.row([sheet(-1, 1, -9, 9, 8), near]), [(Fraction(1, 4), Fraction(3, 4), 1)])

    def test_boards_that_cross(self):
        low, half, high = Fraction(3, 8), Fraction(1, 2), Fraction(5, 8)
        self.assertEqual(self.row(CROSS), [(low, half, 0), (half, high, 1)])
        self.assertEqual(self.row(CROSS[::-1]), [(low, half, 1), (half, high, 0)])
        through = [sheet(-1, 1, -1, 1, 10)] + CROSS
        self.assertEqual(seen_at(FRAME, through, MIDDLE), 0)
        self.assertEqual(self.row(through), [(low, half, 1), (half, high, 2)])

    def test_boards_that_touch(self):
        left, right = sheet(-4, 0, -1, 1, 4), sheet(0, 4, -1, 1, 4)
        half = Fraction(1, 2)
        self.assertEqual(self.row([left, right]), [(0, half, 0), (half, 1, 1)])
        self.assertEqual(self.row([right, left]), [(0, half, 1), (half, 1, 0)])

    def test_a_gap(self):
        left, right = sheet(-4, -1, -1, 1, 4), sheet(0, 4, -1, 1, 4)
        self.assertEqual(self.row([left, right]), [(0, Fraction(3, 8), 0), (Fraction(1, 2), 1, 1)])

    def test_in_one_plane(self):
        wide, narrow = sheet(-4, 4, -1, 1, 4), sheet(-1, 1, -1, 1, 4)
        low, high = Fraction(3, 8), Fraction(5, 8)
        self.assertEqual(self.row([wide, narrow]), [(0, 1, 0)])
        self.assertEqual(self.row([narrow, wide]), [(0, low, 1), (low, high, 0), (high, 1, 1)])
        self.assertEqual(self.row([wide, wide]), [(0, 1, 0)])

    def test_single_places_part_nothing(self):
        wall = sheet(-9, 9, -9, 9, 9)
        needle = made_board([(0, 0, 4, 1), (1, 1, 4, 1), (-1, 1, 4, 1)])
        self.assertEqual(seen_at(FRAME, [wall, needle], MIDDLE), 1)
        self.assertEqual(self.row([wall, needle]), [(0, 1, 0)])
        self.assertEqual(self.row([needle]), [])

    def test_a_board_that_only_touches_another_ones_face(self):
        wall = sheet(-9, 9, -9, 9, 9)
        fin = made_board([(0, -1, 9, 1), (0, 1, 9, 1), (3, 1, 12, 1), (3, -1, 12, 1)])
        self.assertEqual(self.row([fin, wall]), [(0, 1, 1)])
        self.assertEqual(self.row([wall, fin]), [(0, 1, 0)])
        self.assertEqual(seen_at(FRAME, [fin, wall], MIDDLE), 0)

    def test_all_along_an_edge(self):
        above = sheet(-2, 2, 0, 3, 4)
        below = sheet(-3, 3, -3, 0, 4)
        low, high = Fraction(1, 4), Fraction(3, 4)
        self.assertEqual(self.row([above]), [(low, high, 0)])
        lower, higher = Fraction(1, 8), Fraction(7, 8)
        self.assertEqual(self.row([above, below]), [(lower, low, 1), (low, high, 0), (high, higher, 1)])
        self.assertEqual(self.row([below, above]), [(lower, higher, 0)])
        self.assertEqual(self.row([above], Fraction(499, 1000)), [])

    def test_crossing_along_the_row(self):
        up = made_board([(-4, -2, 3, 1), (4, -2, 3, 1), (4, 2, 5, 1), (-4, 2, 5, 1)])
        down = made_board([(-2, -2, 5, 1), (2, -2, 5, 1), (2, 2, 3, 1), (-2, 2, 3, 1)])
        low, high = Fraction(1, 4), Fraction(3, 4)
        self.assertEqual(self.row([up, down]), [(0, 1, 0)])
        self.assertEqual(self.row([down, up]), [(0, low, 1), (low, high, 0), (high, 1, 1)])

    def test_a_ring(self):
        frame = made_frame((3, 2, 200, 1), (-30, -30, 0, 1), (60, 0, 0), (0, 60, 0))
        row = self.row(FOUR_RING, Fraction(1, 4), frame)
        self.assertEqual([number for low, high, number in row], [3, 0])
        row = self.row(FOUR_RING, Fraction(3, 4), frame)
        self.assertEqual([number for low, high, number in row], [2, 1])

    def test_drawn_ones(self):
        draw = random.Random(83)
        stretches = 0
        for _ in range(250):
            frame = drawn_frame(draw)
            boards = [drawn_board(draw, draw.choice([1, 3])) for _ in range(draw.randint(1, 6))]
            if draw.random() < 0.3:
                boards = (boards[:1] + boards)[:6]
            if is_free(boards, frame[0]):
                stretches += len(self.row(boards, number_of(drawn_place(draw)[1]), frame))
        self.assertGreater(stretches, 80)

    def test_drawn_ones_before_the_frame(self):
        draw = random.Random(84)
        longest = 0
        for _ in range(60):
            boards = [shifted(drawn_board(draw, 2), (0, 0, 12)) for _ in range(6)]
            if is_free(boards, EYE):
                longest = max(longest, len(self.row(boards, number_of(drawn_place(draw)[1]))))
        self.assertGreater(longest, 5)

    def test_many_figures(self):
        hair = Fraction(1, 2 * MANY)
        needle = made_board([(-1, -1, MANY, 1), (1, -1, MANY, 1), (1, 1, MANY, 1), (-1, 1, MANY, 1)])
        half = Fraction(1, 2)
        self.assertEqual(self.row([needle]), [(half - hair, half + hair, 0)])
        self.assertEqual(self.row([needle], half + hair), [(half - hair, half + hair, 0)])
        self.assertEqual(self.row([needle], half + hair + hair * hair), [])
        self.assertEqual(seen_at(FRAME, [needle], at(half + hair, half - hair)), 0)
        self.assertIsNone(seen_at(FRAME, [needle], at(half + hair, half - 2 * hair)))


if __name__ == "__main__":
    unittest.main()
