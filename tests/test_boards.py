import itertools
import math
import random
import unittest
from fractions import Fraction

from boardsight.boards import made_board, middle, plane_of, size_of, where_in
from boardsight.errors import NoBoard
from boardsight.planes import side_of
from boardsight.spots import made_spot, shared_spot, stands_first
from helper import MANY, MANY_TOO, drawn_board, flat, flat_board, number_of, numbers_of, refused_with

OCTAGON = [(1, 0), (2, 0), (3, 1), (3, 2), (2, 3), (1, 3), (0, 2), (0, 1)]
SQUARE = [(0, 0), (4, 0), (4, 4), (0, 4)]


def tilted(u, v, w=1):
    return made_spot(3 + u + 2 * v, -1 - u + v, 2 * u + 5 * v, w)


def area_arrow(board):
    total = [Fraction(0)] * 3
    for k in range(len(board)):
        one, other = numbers_of(board[k - 1]), numbers_of(board[k])
        for axis in range(3):
            here, there = (axis + 1) % 3, (axis + 2) % 3
            total[axis] += (one[here] * other[there] - one[there] * other[here]) / 2
    return total


class MadeBoardTest(unittest.TestCase):
    def check_every_turn(self, corners):
        board = made_board(corners)
        self.assertIs(type(board), tuple)
        for k in range(len(corners)):
            turned = corners[k:] + corners[:k]
            self.assertEqual(made_board(turned), board)
            self.assertEqual(made_board(turned[::-1]), board)
        self.assertEqual(made_board(list(board)), board)
        self.assertEqual(sorted(board), sorted(corners))
        for corner in board[1:]:
            self.assertTrue(stands_first(board[0], corner))
        self.assertTrue(stands_first(board[1], board[-1]))
        return board

    def test_the_form(self):
        wanted = ((0, 0, 0, 1), (0, 4, 0, 1), (4, 4, 0, 1), (4, 0, 0, 1))
        self.assertEqual(self.check_every_turn(flat(SQUARE)), wanted)
        self.check_every_turn([tilted(u, v, 3) for u, v in OCTAGON])
        self.check_every_turn([(0, 0, 0, 1), (0, 1, 0, 2), (0, 0, 1, 3)])
        self.check_every_turn([(1, 0, 0, 7), (-1, 0, 0, 1), (5, 1, 5, 2)])

    def test_the_form_goes_by_numbers_over_w(self):
        board = made_board([(4, 0, 0, 1), (7, 0, 3, 2), (9, 1, 0, 3)])
        self.assertEqual(board, ((9, 1, 0, 3), (7, 0, 3, 2), (4, 0, 0, 1)))

    def test_drawn_ones(self):
        draw = random.Random(1)
        for _ in range(100):
            self.check_every_turn(list(drawn_board(draw)))

    def test_the_list_stays_and_is_not_kept(self):
        corners = flat(SQUARE)
        board = made_board(corners)
        self.assertEqual(corners, flat(SQUARE))
        corners.clear()
        self.assertEqual(board, flat_board(SQUARE))

    def test_how_many_corners(self):
        self.assertEqual(len(flat_board(OCTAGON)), 8)
        nine = [(k, k * k) for k in range(9)]
        self.assertEqual(len(flat_board(nine[:8])), 8)
        self.assertTrue(refused_with(NoBoard, made_board, flat(nine)))
        for many in range(3):
            self.assertTrue(refused_with(NoBoard, made_board, flat(SQUARE[:many])))

    def check_refused(self, corners):
        for k in range(len(corners)):
            turned = corners[k:] + corners[:k]
            self.assertTrue(refused_with(NoBoard, made_board, turned), turned)
            self.assertTrue(refused_with(NoBoard, made_board, turned[::-1]), turned)

    def test_not_on_one_plane(self):
        self.check_refused(flat(SQUARE[:3]) + [(0, 4, 1, 1)])
        self.check_refused(flat(OCTAGON[:7]) + [(0, 1, 1, MANY)])

    def test_corners_that_go_wrong(self):
        wrong = [
            [(0, 0), (2, 0), (4, 0), (4, 4), (0, 4)],
            [(0, 0), (4, 0), (1, 1), (0, 4)],
            [(0, 0), (4, 0), (4, 4), (2, 2)],
            [(0, 0), (4, 0), (4, 4), (0, 4), (2, 2)],
            [(0, 0), (4, 0), (4, 4), (0, 4), (4, 2)],
            [(0, 0), (4, 0), (4, 0), (4, 4), (0, 4)],
            [(0, 0), (4, 0), (4, 4), (0, 4), (0, 0)],
            [(0, 0), (4, 0), (4, 4), (0, 0), (0, 4)],
            [(0, 0), (4, 4), (4, 0), (0, 4)],
            [(0, 0), (4, 0), (0, 4), (0, 0), (4, 0), (0, 4)],
            [(0, 0), (4, 0), (4, 4), (0, 4), (0, 0), (4, 0), (4, 4), (0, 4)],
            [(0, 3), (2, -3), (-3, 1), (3, 1), (-2, -3)],
            [(0, 0), (1, 1), (2, 2)],
            [(0, 0), (1, 1), (2, 2), (3, 3)],
            [(1, 2), (1, 2), (1, 2)],
            [(1, 2), (1, 2), (1, 2), (1, 2)],
            [(0, 0), (4, 0), (0, 0)],
        ]
        for pairs in wrong:
            self.check_refused(flat(pairs))
            self.check_refused([tilted(u, v, 3) for u, v in pairs])

    def test_neighbours_exchanged(self):
        corners = [tilted(u, v) for u, v in OCTAGON]
        for k in range(8):
            wrong = list(corners)
            wrong[k - 1], wrong[k] = wrong[k], wrong[k - 1]
            self.check_refused(wrong)

    def test_many_figures(self):
        corners = [(0, 0, 0, 1), (MANY, 0, 0, 1), (MANY, MANY, 0, 1), (0, MANY, 0, 1)]
        self.check_every_turn(corners)
        amid = made_spot(MANY, MANY_TOO, 0)
        self.check_refused(corners[:2] + [amid] + corners[2:])
        self.check_every_turn(corners[:2] + [made_spot(MANY + 1, MANY_TOO, 0)] + corners[2:])
        self.check_refused(corners[:2] + [made_spot(MANY - 1, MANY_TOO, 0)] + corners[2:])


class PlaneAndSizeTest(unittest.TestCase):
    def test_plane_is_plain(self):
        self.assertEqual(plane_of(flat_board(SQUARE, -3, 2)), (0, 0, 2, -3))
        self.assertEqual(plane_of(made_board([(1, 0, 0, 1), (0, 1, 0, 1), (0, 0, 1, 1)])), (1, 1, 1, 1))
        self.assertEqual(plane_of(made_board([(0, 0, 0, 1), (0, 0, 1, 1), (1, 1, 0, 1)])), (1, -1, 0, 0))

    def test_planes_of_drawn_ones(self):
        draw = random.Random(2)
        for _ in range(100):
            board = drawn_board(draw)
            plane = plane_of(board)
            self.assertEqual([side_of(plane, corner) for corner in board], [0] * len(board))
            self.assertGreater([number for number in plane[:3] if number != 0][0], 0)

    def test_plain_sizes(self):
        self.assertEqual(size_of(flat_board(SQUARE)), (16, 1))
        self.assertEqual(size_of(flat_board(SQUARE, 0, 3)), (16, 9))
        self.assertEqual(size_of(flat_board([(0, 0), (1, 0), (0, 1)], 5)), (1, 2))
        self.assertEqual(size_of(flat_board(SQUARE, 1, 2)), (2, 1))
        self.assertEqual(size_of(made_board([(1, 0, 0, 1), (0, 1, 0, 1), (0, 0, 1, 1)])), (1, 2))
        self.assertEqual(size_of(made_board([(0, 0, 0, 1), (0, 0, 3, 1), (0, 5, 0, 2)])), (15, 4))
        self.assertEqual(size_of(made_board([(0, 7, 0, 1), (0, 7, 3, 1), (1, 7, 0, 1)])), (3, 2))

    def check_size(self, board):
        size = size_of(board)
        self.assertGreater(size[0], 0)
        arrow = area_arrow(board)
        told = [number_of(size) * number for number in plane_of(board)[:3]]
        self.assertIn(arrow, (told, [-number for number in told]))
        self.assertEqual(math.gcd(*size), 1)

    def test_sizes_of_drawn_ones(self):
        draw = random.Random(3)
        for _ in range(200):
            self.check_size(drawn_board(draw))
        self.check_size(made_board([(1, 2, 3, 4), (0, -1, 2, 7), (5, 0, -3, 2)]))

    def test_many_figures(self):
        self.check_size(made_board([(MANY, 0, 0, 1), (0, MANY_TOO, 1, 2), (0, 0, 1, MANY)]))
        self.assertEqual(size_of(flat_board([(0, 0), (MANY, 0), (0, MANY)])), (MANY * MANY, 2))

    def test_more_than_eight_corners(self):
        ring = flat([(k, k * k) for k in range(12)])
        board = tuple(ring)
        self.check_size(board)
        self.assertEqual(where_in(board, (11, 80, 0, 2)), "within")
        self.assertEqual(middle(board), made_spot(66, 506, 0, 12))


class WhereTest(unittest.TestCase):
    def test_square(self):
        board = made_board([tilted(u, v) for u, v in SQUARE])
        for u, v in itertools.product(range(-2, 11), repeat=2):
            wanted = "off"
            if 0 <= u <= 8 and 0 <= v <= 8:
                wanted = "within" if 0 < u < 8 and 0 < v < 8 else "rim"
            spot = made_spot(6 + u + 2 * v, -2 - u + v, 2 * u + 5 * v, 2)
            self.assertEqual(where_in(board, spot), wanted, (u, v))

    def test_beyond_an_edge_on_its_line(self):
        board = flat_board([(0, 0), (4, 0), (0, 4)])
        self.assertEqual(where_in(board, (5, 0, 0, 1)), "off")
        self.assertEqual(where_in(board, (-1, 0, 0, 1)), "off")
        self.assertEqual(where_in(board, (-1, 5, 0, 1)), "off")
        self.assertEqual(where_in(board, (1, 0, 0, 1)), "rim")
        self.assertEqual(where_in(board, (1, 1, 0, 1)), "within")

    def test_off_the_plane(self):
        board = flat_board(SQUARE, 5)
        for spot in ((2, 2, 4, 1), (2, 2, 6, 1), (0, 0, 4, 1), (2, 0, 51, 10)):
            self.assertEqual(where_in(board, spot), "off")
        self.assertEqual(where_in(board, (2, 2, 5, 1)), "within")

    def test_drawn_ones(self):
        draw = random.Random(4)
        for _ in range(60):
            board = drawn_board(draw)
            for k in range(len(board)):
                self.assertEqual(where_in(board, board[k]), "rim")
                half = shared_spot(board[k - 1], board[k], (1, 2))
                self.assertEqual(where_in(board, half), "rim")
                self.assertEqual(where_in(board, shared_spot(board[k - 1], board[k], (3, 2))), "off")
                self.assertEqual(where_in(board, shared_spot(middle(board), half, (8, 9))), "within")
                self.assertEqual(where_in(board, shared_spot(middle(board), half, (9, 8))), "off")

    def test_many_figures(self):
        board = flat_board([(0, 0), (MANY, 0), (0, MANY)], 1)
        self.assertEqual(where_in(board, made_spot(1, 1, MANY, MANY)), "within")
        self.assertEqual(where_in(board, made_spot(MANY - 1, 1, 1)), "rim")
        self.assertEqual(where_in(board, made_spot(MANY, 1, 1)), "off")
        self.assertEqual(where_in(board, made_spot(-1, MANY, MANY, MANY)), "off")
        self.assertEqual(where_in(board, made_spot(1, 1, MANY + 1, MANY)), "off")


class MiddleTest(unittest.TestCase):
    def test_plain_examples(self):
        self.assertEqual(middle(flat_board(SQUARE, 7)), (2, 2, 7, 1))
        self.assertEqual(middle(flat_board([(0, 0), (1, 0), (0, 1)])), (1, 1, 0, 3))
        self.assertEqual(middle(made_board([(0, 0, 0, 1), (1, 0, 0, 2), (0, 1, 0, 3)])), (3, 2, 0, 18))

    def check(self, board):
        found = middle(board)
        means = zip(*[numbers_of(corner) for corner in board])
        self.assertEqual(numbers_of(found), tuple(sum(row) / len(board) for row in means))
        self.assertEqual(math.gcd(*found), 1)
        self.assertGreaterEqual(found[3], 1)
        self.assertEqual(where_in(board, found), "within")

    def test_drawn_ones(self):
        draw = random.Random(5)
        for _ in range(200):
            self.check(drawn_board(draw))
        self.check(made_board([(1, 2, 3, 4), (0, -1, 2, 7), (5, 0, -3, 2)]))

    def test_many_figures(self):
        self.check(made_board([(MANY, 0, 0, 1), (0, MANY_TOO, 1, 2), (0, 0, 1, MANY)]))
        self.check(made_board([(MANY, 0, 0, MANY_TOO), (0, -MANY_TOO, 1, MANY), (0, 0, 1, MANY - 1)]))


if __name__ == "__main__":
    unittest.main()
