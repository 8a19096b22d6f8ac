import random
import unittest

from boardsight.boards import made_board, plane_of
from boardsight.cuts import does_fill
from boardsight.errors import NotFree
from boardsight.loosening import loosened
from boardsight.orders import order_from
from boardsight.sights import does_hide
from boardsight.spots import made_spot
from helper import (
    CROSS, FOUR_RING, HIGH_UP, MANY, THREE_RING, drawn_scene, drawn_spot, hides_later, refusal_of, sheet, told_twice,
)

EYE = (0, 0, 0, 1)


class LooseningTest(unittest.TestCase):
    def check(self, boards, spot):
        pieces, row = told = told_twice(self, loosened, boards, spot)
        self.assertIs(type(told), tuple)
        self.assertIs(type(pieces), list)
        self.assertIs(type(row), list)
        self.assertTrue(all(type(piece) is tuple and len(piece) == 2 for piece in pieces))
        self.assertLessEqual({number for number, board in pieces}, set(range(len(boards))))
        for number, board in enumerate(boards):
            self.assertTrue(does_fill(board, [part for mine, part in pieces if mine == number]))
        bare = [part for number, part in pieces]
        self.assertEqual(sorted(row), list(range(len(pieces))))
        self.assertFalse(hides_later(bare, row, spot))
        self.assertEqual(order_from(bare, spot)[:2], ("order", row))
        found = order_from(boards, spot)
        if found[0] == "order":
            self.assertEqual(told, (list(enumerate(boards)), found[1]))
        else:
            self.assertGreater(len(pieces), len(boards))
        return told

    def test_no_boards_and_one(self):
        self.assertEqual(self.check([], EYE), ([], []))
        self.assertEqual(self.check(CROSS[:1], EYE), ([(0, CROSS[0])], [0]))

    def test_without_a_ring_none_is_cut(self):
        boards = [sheet(-1, 1, -1, 1, depth) for depth in (5, 9, 7, 30)]
        self.assertEqual(self.check(boards, EYE), (list(enumerate(boards)), [3, 1, 2, 0]))
        wall = made_board([(-9, -9, 0, 1), (-9, 9, 0, 1), (9, 9, 40, 1), (9, -9, 40, 1)])
        beside = made_board([(40, -9, 0, 1), (40, 9, 0, 1), (60, 9, 90, 1), (60, -9, 90, 1)])
        self.assertEqual(self.check([wall, beside], (-50, 0, 7, 1))[0], [(0, wall), (1, beside)])

    def test_the_same_board_twice(self):
        self.assertEqual(self.check([CROSS[0]] * 4, EYE), ([(k, CROSS[0]) for k in range(4)], [0, 1, 2, 3]))

    def test_two_that_cross(self):
        pieces, row = self.check(CROSS, EYE)
        self.assertEqual(len(pieces), 3)
        for spot in ((0, 0, 50, 1), (50, 0, 9, 1), (0, 50, 1, 1)):
            self.check(CROSS, spot)

    def test_rings_of_three_and_four(self):
        for boards in (THREE_RING, FOUR_RING):
            self.check(boards, HIGH_UP)
            self.check(boards, (3, 2, -200, 1))
            self.check(boards[::-1], HIGH_UP)
            self.check(boards[1:] + boards[:1], (1, 1, 90, 2))
        self.check(THREE_RING + [sheet(-99, 99, -99, 99, 30)], HIGH_UP)
        self.check([sheet(-99, 99, -99, 99, -30)] + THREE_RING, HIGH_UP)

    def test_two_rings(self):
        aside = [made_board([(x + 90, y, z, w) for x, y, z, w in board]) for board in CROSS]
        pieces, row = self.check(CROSS + aside, (45, 0, 200, 1))
        self.assertEqual(len(pieces), 6)

    def test_all_through_one_another(self):
        walls = [
            sheet(-5, 5, -5, 5, 0),
            made_board([(-5, 0, -5, 1), (5, 0, -5, 1), (5, 0, 5, 1), (-5, 0, 5, 1)]),
            made_board([(0, -5, -5, 1), (0, 5, -5, 1), (0, 5, 5, 1), (0, -5, 5, 1)]),
            made_board([(-5, -5, -4, 1), (5, -5, 4, 1), (5, 5, 6, 1), (-5, 5, -2, 1)]),
        ]
        for spot in ((20, 30, 40, 1), (-1, 7, 90, 3), (1, 2, 3, 4), (-30, -20, -90, 1)):
            pieces, row = self.check(walls, spot)
            self.assertLessEqual(len(pieces), 28)
            for number, part in pieces:
                self.assertEqual(plane_of(part), plane_of(walls[number]))

    def test_drawn_ones(self):
        draw = random.Random(21)
        cut = 0
        for _ in range(120):
            boards, spot = drawn_scene(draw, draw.randint(2, 4), 3)
            pieces, row = self.check(boards, spot)
            cut += len(pieces) > len(boards)
        self.assertGreater(cut, 25)

    def test_many_figures(self):
        lifted = [
            made_board([made_spot(x * MANY, y * MANY, z * MANY + 1, w * MANY) for x, y, z, w in board])
            for board in CROSS
        ]
        self.assertTrue(does_hide(lifted[0], lifted[1], EYE))
        self.check(lifted, EYE)
        draw = random.Random(22)
        reach = 10 ** 100 - 1
        for _ in range(3):
            boards = [made_board([drawn_spot(draw, reach, reach) for _ in range(3)]) for _ in range(3)]
            self.check(boards, drawn_spot(draw, reach, reach))

    def test_not_free(self):
        boards = [CROSS[0], sheet(7, 8, 7, 8, 0), CROSS[1], sheet(-8, -7, 7, 8, 0)]
        refusal = refusal_of(loosened, boards, EYE)
        self.assertIsInstance(refusal, NotFree)
        self.assertEqual(refusal.board, 1)
        self.assertEqual(refusal_of(loosened, CROSS, CROSS[1][0]).board, 1)
        self.assertEqual(refusal_of(loosened, CROSS, (0, 9, 10, 1)).board, 0)


if __name__ == "__main__":
    unittest.main()
