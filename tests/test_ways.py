import random
import unittest
from fractions import Fraction

from boardsight.boards import made_board
from boardsight.errors import NotFree
from boardsight.sights import does_hide, is_free
from boardsight.spots import made_spot
from boardsight.wayjudge import stretch_judged
from boardsight.ways import spot_at, stretch_of
from helper import (
    CROSS, FLOOR, FOUR_RING, HIGH_WALL, LEFT_FLOOR, LOW_WALL, MANY, RIGHT_FLOOR, WALL, as_fraction, drawn_board,
    drawn_spot, drawn_way, is_right_stretch, number_of, numbers_of, point_at, refusal_of, sheet, shifted, told_twice,
)

PANE, BACK = sheet(-1, 1, -1, 1, 2), sheet(-1, 1, -1, 1, 4)


def line(start, goal):
    return (start + (1,), goal + (1,))


class SpotTest(unittest.TestCase):
    def test_known_ones(self):
        way = ((0, 0, 0, 1), (4, -8, 2, 1))
        for t, spot in (
            ((0, 1), way[0]), ((1, 1), way[1]), ((1, 2), (2, -4, 1, 1)), ((1, 4), (2, -4, 1, 2)),
            ((1, 3), (4, -8, 2, 3)),
        ):
            self.assertEqual(told_twice(self, spot_at, way, t), spot)

    def test_with_w(self):
        way = ((1, 2, 3, 4), (-5, 0, 1, 6))
        self.assertEqual(spot_at(way, (0, 1)), way[0])
        self.assertEqual(spot_at(way, (1, 1)), way[1])
        self.assertEqual(spot_at(way, (3, 5)), made_spot(-12, 6, 12, 30))

    def test_drawn_ones(self):
        draw = random.Random(11)
        for _ in range(200):
            way = (drawn_spot(draw), drawn_spot(draw))
            t = Fraction(draw.randint(0, 9), 9)
            told = spot_at(way, as_fraction(t))
            self.assertEqual(told, made_spot(*told))
            self.assertEqual(numbers_of(told), point_at(way, t))


class StretchTest(unittest.TestCase):
    def stretch(self, one, other, way):
        """What is told, with its checks: the paper is right, and at all of many moments it agrees with does_hide."""
        told = told_twice(self, stretch_of, one, other, way)
        self.assertIs(type(told), tuple)
        self.assertTrue(is_right_stretch(one, other, way, told))
        self.assertIs(told_twice(self, stretch_judged, one, other, way, told), True)
        self.check_moments(one, other, way, told)
        return told

    def check_moments(self, one, other, way, told):
        hair = Fraction(1, 10 ** 20)
        moments = [Fraction(k, 12) for k in range(13)]
        if told[0] == "stretch":
            low, high = number_of(told[1]), number_of(told[2])
            moments += [low - hair, low, low + hair, high - hair, high, high + hair, (low + high) / 2]
        for t in moments:
            if 0 <= t <= 1 and is_free([one, other], spot_at(way, as_fraction(t))):
                hidden = does_hide(one, other, spot_at(way, as_fraction(t)))
                self.assertEqual(hidden, told[0] == "stretch" and self.is_in(told, t))

    def is_in(self, told, t):
        low, high = number_of(told[1]), number_of(told[2])
        return (low < t or (t == 0 and told[3][0] is None)) and (t < high or (t == 1 and told[4][0] is None))

    def bounds(self, one, other, start, goal):
        """Low and high, and whether 0 and 1 belong to the stretch; None for never. The way back tells the like."""
        told = self.stretch(one, other, line(start, goal))
        back = self.stretch(one, other, line(goal, start))
        self.assertEqual(told[0], back[0])
        if told[0] == "never":
            self.assertEqual(len(told), 3)
            return None
        self.assertEqual(len(told), 6)
        low, high = number_of(told[1]), number_of(told[2])
        self.assertEqual((1 - high, 1 - low), (number_of(back[1]), number_of(back[2])))
        ends = (told[3][0] is None, told[4][0] is None)
        self.assertEqual(ends, (back[4][0] is None, back[3][0] is None))
        return (low, high) + ends

    def test_strictly_between(self):
        told = self.bounds(PANE, BACK, (-10, 0, 0), (10, 0, 0))
        self.assertEqual(told, (Fraction(7, 20), Fraction(13, 20), False, False))

    def test_from_the_start(self):
        self.assertEqual(self.bounds(PANE, BACK, (0, 0, 0), (10, 0, 0)), (0, Fraction(3, 10), True, False))
        self.assertEqual(self.bounds(PANE, BACK, (-10, 0, 0), (0, 0, 0)), (Fraction(7, 10), 1, False, True))

    def test_the_whole_way(self):
        self.assertEqual(self.bounds(PANE, BACK, (-2, 0, 0), (2, 1, -1)), (0, 1, True, True))

    def test_the_start_on_the_bound(self):
        self.assertEqual(self.bounds(PANE, BACK, (3, 0, 0), (-7, 0, 0)), (0, Fraction(6, 10), False, False))
        self.assertEqual(self.bounds(PANE, BACK, (-3, 0, 0), (3, 0, 0)), (0, 1, False, False))
        self.assertIsNone(self.bounds(PANE, BACK, (3, 0, 0), (9, 0, 0)))
        self.assertIsNone(self.bounds(PANE, BACK, (3, -9, 0), (3, 9, 0)))

    def test_never(self):
        self.assertIsNone(self.bounds(BACK, PANE, (-10, 0, 0), (10, 0, 0)))
        self.assertIsNone(self.bounds(PANE, BACK, (-10, 0, 3), (10, 0, 3)))
        self.assertIsNone(self.bounds(PANE, BACK, (-10, 9, 0), (10, 9, 0)))
        self.assertIsNone(self.bounds(PANE, BACK, (0, 0, 3), (0, 0, 9)))

    def test_through_a_board(self):
        self.assertEqual(self.bounds(PANE, BACK, (0, 0, 0), (0, 0, 10)), (0, Fraction(2, 10), True, False))
        self.assertEqual(self.bounds(BACK, PANE, (0, 0, 0), (0, 0, 10)), (Fraction(4, 10), 1, False, True))
        last = stretch_of(PANE, BACK, line((0, 0, 0), (0, 0, 10)))[4]
        self.assertEqual(last[1], (0, 0, 2, 1))

    def test_through_a_rim_and_a_corner(self):
        self.assertEqual(self.bounds(PANE, BACK, (1, 0, 0), (1, 0, 8)), (0, Fraction(1, 4), True, False))
        self.assertEqual(self.bounds(PANE, BACK, (1, 1, 0), (1, 1, 8)), (0, Fraction(1, 4), True, False))
        self.assertEqual(self.bounds(PANE, BACK, (1, 1, 1), (9, 9, 9)), (0, Fraction(1, 16), True, False))

    def test_through_the_plane_beside_a_board(self):
        self.assertEqual(self.bounds(PANE, BACK, (0, 0, 0), (4, 0, 3)), (0, Fraction(3, 7), True, False))
        self.assertIsNone(self.bounds(PANE, BACK, (5, 0, 0), (5, 0, 9)))

    def test_along_a_board(self):
        wide = sheet(-5, 5, -1, 1, 1)
        self.assertEqual(self.bounds(wide, sheet(0, 1, 0, 1, 2), (-20, 0, 0), (20, 0, 0)),
                         (Fraction(9, 40), Fraction(30, 40), False, False))
        self.assertIsNone(self.bounds(wide, sheet(0, 1, 0, 1, 2), (-20, 2, 0), (20, 2, 0)))
        self.assertEqual(self.bounds(WALL, RIGHT_FLOOR, (-3, 0, 3), (3, 0, 3)), (0, Fraction(1, 2), True, False))

    def test_inner_moments_that_are_not_free(self):
        for way in ((0, 0, 0), (0, 0, 20)), ((-7, 1, 5), (9, 2, 14)), ((-3, 0, 10), (3, 1, 10)):
            for one, other in (CROSS, CROSS[::-1]):
                self.assertEqual(self.bounds(one, other, *way), (0, 1, True, True))
        right = sheet(2, 4, -1, 1, 0)
        self.assertEqual(self.bounds(WALL, right, (-3, 0, -1), (-3, 0, 1)), (0, 1, True, True))
        self.assertEqual(self.bounds(WALL, right, (-3, 0, -2), (-3, 0, 2))[2:], (True, True))

    def test_where_the_middle_is_not_free(self):
        told = self.stretch(WALL, sheet(2, 4, -1, 1, 0), line((-3, 0, -1), (-3, 0, 1)))
        self.assertNotEqual(told[5][0], (1, 2))

    def test_past_corners(self):
        one = made_board([(0, 0, 2, 1), (1, 1, 2, 1), (-1, 1, 2, 1)])
        other = made_board([(0, 0, 4, 1), (1, -1, 4, 1), (-1, -1, 4, 1)])
        self.assertIsNone(self.bounds(one, other, (-5, 0, 0), (5, 0, 0)))
        self.assertIsNone(self.bounds(one, other, (0, 0, 0), (0, -5, 0)))
        self.assertEqual(self.bounds(one, other, (0, 0, 0), (0, 5, 0)), (0, Fraction(3, 5), False, False))
        self.assertEqual(self.bounds(one, other, (0, -5, 0), (0, 5, 0)), (Fraction(1, 2), Fraction(4, 5), False, False))

    def test_along_the_plane_of_a_board_past_its_edge(self):
        """The way crosses the wall's plane beside the wall; there the only line goes along it to a far corner."""
        for x in (1, -1, 2, -2):
            wall = shifted(WALL, (x, 0, 0))
            for step in (1, -1):
                far = made_board([(x, 0, 9, 1), (x - step, 1, 9, 1), (x - step, -1, 9, 1)])
                told = self.bounds(wall, far, (x - step, 3, -9), (x + step, 3, -9))
                self.assertEqual(told, (Fraction(1, 2), 1, False, True))

    def test_boards_that_share_an_edge_or_a_corner(self):
        for one, other in (
            (LEFT_FLOOR, LOW_WALL), (LOW_WALL, LEFT_FLOOR), (LEFT_FLOOR, HIGH_WALL), (HIGH_WALL, RIGHT_FLOOR),
            (WALL, LEFT_FLOOR), (RIGHT_FLOOR, WALL), (FLOOR, HIGH_WALL), (FLOOR, WALL),
        ):
            for way in (((-7, 0, 3), (7, 0, 2)), ((3, 1, -6), (2, 1, 6)), ((-5, 0, -5), (5, 0, 5)),
                        ((1, 9, 1), (1, -9, 1)), ((4, 4, 4), (-1, -1, -1)), ((-2, 0, 1), (2, 0, 1))):
                self.bounds(one, other, *way)

    def test_in_one_plane(self):
        left, right = sheet(-4, 0, -4, 4, 0), sheet(0, 4, -4, 4, 0)
        apart = sheet(6, 9, -4, 4, 0)
        for one, other in ((left, right), (left, apart), (FLOOR, left), (left, FLOOR)):
            for way in (((-9, 0, 1), (9, 0, 1)), ((-9, 0, -1), (9, 0, 1)), ((0, 0, 5), (0, 0, -5)),
                        ((5, 0, 1), (5, 0, -2))):
                self.assertIsNone(self.bounds(one, other, *way))

    def test_one_board_twice(self):
        for way in (((-9, 0, 1), (9, 0, 1)), ((-9, 0, -1), (9, 0, 1)), ((0, 0, 5), (0, 0, -5))):
            self.assertIsNone(self.bounds(FLOOR, FLOOR, *way))

    def test_one_behind_the_other_both_ways(self):
        """One board hides the other before the way goes between them, and is hidden by it behind both."""
        way = ((0, 0, -4), (1, 1, 10))
        first, second = self.bounds(PANE, BACK, *way), self.bounds(BACK, PANE, *way)
        self.assertLess(first[1], second[0])

    def test_a_ring(self):
        way = ((3, 2, 200), (5, -9, -150))
        for k in range(4):
            low, high, begins, ends = self.bounds(FOUR_RING[k], FOUR_RING[(k + 1) % 4], *way)
            self.assertEqual((low, begins), (0, True))
            self.assertLess(high, 1)

    def test_drawn_ones(self):
        draw = random.Random(12)
        kinds = {}
        for _ in range(400):
            reach = draw.choice([1, 2, 3, 6])
            one, other = drawn_board(draw, reach), drawn_board(draw, reach)
            told = self.stretch(one, other, drawn_way(draw, [one, other]))
            kind = told[:1] if told[0] == "never" else (told[3][0] is None, told[4][0] is None)
            kinds[kind] = kinds.get(kind, 0) + 1
        self.assertEqual(len(kinds), 5)
        self.assertGreater(min(kinds.values()), 3)

    def test_drawn_ones_in_a_few_planes(self):
        draw = random.Random(13)
        boards = [FLOOR, WALL, LEFT_FLOOR, HIGH_WALL, LOW_WALL, sheet(0, 4, 0, 4, 1), shifted(WALL, (1, 0, 0))]
        for _ in range(200):
            one, other = draw.choice(boards), draw.choice(boards)
            self.stretch(one, other, drawn_way(draw, [one, other], 5))

    def test_many_figures(self):
        way = ((-MANY, 0, 0, 1), (MANY, 0, 0, 1))
        told = self.stretch(PANE, BACK, way)
        self.assertEqual([number_of(at) for at in told[1:3]],
                         [Fraction(MANY - 3, 2 * MANY), Fraction(MANY + 3, 2 * MANY)])
        near = made_board([(-1, -1, MANY, 1), (1, -1, MANY, 1), (0, 1, MANY, 1)])
        far = made_board([(-1, -1, MANY + 1, 1), (1, -1, MANY + 1, 1), (0, 1, MANY + 1, 1)])
        told = self.stretch(near, far, way)
        self.assertEqual(told[0], "stretch")
        self.assertEqual(self.stretch(far, near, way)[0], "never")

    def test_not_free_where_it_never_hides(self):
        far, on_pane, on_back = (5, 5, 9, 1), (5, 5, 2, 1), (5, 5, 4, 1)
        for way, number in (((on_pane, far), 0), ((far, on_pane), 0), ((on_back, far), 1), ((far, on_back), 1),
                            ((on_back, on_pane), 1), ((on_pane, on_back), 0)):
            for one, other, wanted in ((PANE, BACK, number), (BACK, PANE, 1 - number)):
                refusal = refusal_of(stretch_of, one, other, way)
                self.assertIsInstance(refusal, NotFree)
                self.assertEqual(refusal.board, wanted)

    def test_not_free(self):
        level, upright = FLOOR, WALL
        free, on_level, on_upright, on_both = (5, 0, 5, 1), (5, 0, 0, 1), (0, 0, 5, 1), (0, 9, 0, 1)
        for way, number in (
            ((on_level, free), 0), ((free, on_level), 0), ((on_upright, free), 1), ((free, on_upright), 1),
            ((on_both, free), 0), ((free, on_both), 0), ((on_upright, on_level), 1), ((on_level, on_upright), 0),
        ):
            for deed, more in ((stretch_of, ()), (stretch_judged, (("never", (0, 0, 1, 0), (0, 0, 1, 0)),))):
                refusal = refusal_of(deed, level, upright, way, *more)
                self.assertIsInstance(refusal, NotFree)
                self.assertEqual(refusal.board, number)


if __name__ == "__main__":
    unittest.main()
