import random
import unittest

from boardsight.boards import made_board, plane_of, where_in
from boardsight.cuts import cut_by
from boardsight.errors import NotFree
from boardsight.planes import side_of
from boardsight.sightjudge import sight_judged
from boardsight.sights import does_hide, is_free, sight_of
from boardsight.spots import made_spot, strictly_between
from helper import MANY, MANY_TOO, drawn_board, drawn_spot, flat_board, refusal_of

EYE = (0, 0, 0, 1)


def square(left, right, low, high, z, w=1):
    return flat_board([(left, low), (right, low), (right, high), (left, high)], z, w)


WALL = square(-4, 4, -4, 4, 10)


class SightCase(unittest.TestCase):
    def check_sight(self, one, other, spot):
        told = sight_of(one, other, spot)
        self.assertIs(type(told), tuple)
        self.assertIs(sight_judged(one, other, spot, told), True)
        self.assertEqual(sight_of(one, other, spot), told)
        if told[0] == "hides":
            word, near, far = told
            self.assertEqual(where_in(one, near), "within")
            self.assertEqual(where_in(other, far), "within")
            self.assertTrue(strictly_between(near, spot, far))
        else:
            word, plane = told
            self.assertEqual(word, "parted")
            self.assertTrue(all(side_of(plane, corner) >= 0 for corner in one))
            self.assertTrue(all(side_of(plane, corner) <= 0 for corner in other + (spot,)))
        return told

    def check(self, one, other, spot, wanted):
        self.assertIs(does_hide(one, other, spot), wanted)
        self.assertEqual(self.check_sight(one, other, spot)[0], "hides" if wanted else "parted")


class FreeTest(unittest.TestCase):
    def test_is_free(self):
        self.assertIs(is_free([], EYE), True)
        self.assertIs(is_free([WALL], EYE), True)
        self.assertIs(is_free([WALL, square(0, 1, 0, 1, 0)], EYE), False)
        self.assertIs(is_free([WALL], (0, 0, 10, 1)), False)
        self.assertIs(is_free([WALL], (99, 0, 10, 1)), False)
        self.assertIs(is_free([WALL], made_spot(0, 0, 10 * MANY + 1, MANY)), True)

    def test_not_free_bears_the_first_number(self):
        level = square(7, 8, 7, 8, 0)
        level_too = square(-8, -7, 7, 8, 0)
        cases = [(level, WALL, 0), (WALL, level, 1), (level, level_too, 0), (level, level, 0)]
        for one, other, number in cases:
            told = ("parted", (1, 0, 0, 0))
            for refusal in (
                refusal_of(does_hide, one, other, EYE),
                refusal_of(sight_of, one, other, EYE),
                refusal_of(sight_judged, one, other, EYE, told),
                refusal_of(sight_judged, one, other, EYE, ("hides", EYE, EYE)),
            ):
                self.assertIsInstance(refusal, NotFree)
                self.assertEqual(refusal.board, number)

    def test_not_free_within_and_on_the_rim(self):
        for spot in ((0, 0, 10, 1), (4, 0, 10, 1), (4, 4, 10, 1), (50, 0, 10, 1)):
            self.assertEqual(refusal_of(does_hide, WALL, square(0, 1, 0, 1, 5), spot).board, 0)
            self.assertEqual(refusal_of(does_hide, square(0, 1, 0, 1, 5), WALL, spot).board, 1)


class HidingTest(SightCase):
    def test_wholly_before(self):
        self.check(square(-3, 3, -3, 3, 5), WALL, EYE, True)
        self.check(square(-2, 2, -2, 2, 5), WALL, EYE, True)
        self.check(square(-1, 1, -1, 1, 5), WALL, EYE, True)

    def test_a_bit_of_it(self):
        self.check(square(1, 3, 1, 3, 5), WALL, EYE, True)
        self.check(square(-9, -1, -9, -1, 5), WALL, EYE, True)

    def test_behind_it(self):
        self.check(WALL, square(-3, 3, -3, 3, 5), EYE, False)
        self.check(square(-3, 3, -3, 3, 11), WALL, EYE, False)

    def test_beside_it(self):
        self.check(square(3, 4, 0, 1, 5), WALL, EYE, False)
        self.check(square(3, 4, 3, 4, 5), WALL, EYE, False)
        self.check(made_board([(5, 0, 5, 1), (6, 0, 15, 1), (7, 3, 12, 1)]), WALL, EYE, False)

    def test_behind_the_spot(self):
        self.check(square(-3, 3, -3, 3, -5), WALL, EYE, False)
        self.check(WALL, square(-3, 3, -3, 3, -5), EYE, False)

    def test_partly_behind_the_spot(self):
        slope = made_board([(-3, 1, -5, 1), (3, 1, -5, 1), (0, 2, 9, 1)])
        self.check(slope, WALL, EYE, True)
        self.check(WALL, slope, EYE, False)

    def test_only_touching_in_the_line_of_sight(self):
        self.check(square(2, 3, -1, 1, 5), WALL, EYE, False)
        self.check(square(2, 3, 2, 3, 5), WALL, EYE, False)
        self.check(square(19, 30, -1, 1, 50, 10), WALL, EYE, True)

    def test_standing_on_it(self):
        upright = made_board([(-1, 1, 10, 1), (1, 1, 10, 1), (1, 1, 8, 1), (-1, 1, 8, 1)])
        self.check(upright, WALL, EYE, True)
        self.check(WALL, upright, EYE, False)
        hung = made_board([(-1, 1, 10, 1), (1, 1, 10, 1), (1, 1, 12, 1), (-1, 1, 12, 1)])
        self.check(hung, WALL, EYE, False)
        self.check(WALL, hung, EYE, True)

    def test_crossing_each_other(self):
        one = made_board([(-2, -2, 8, 1), (-2, 2, 8, 1), (2, 2, 12, 1), (2, -2, 12, 1)])
        other = made_board([(-2, -2, 12, 1), (-2, 2, 12, 1), (2, 2, 8, 1), (2, -2, 8, 1)])
        self.check(one, other, EYE, True)
        self.check(other, one, EYE, True)

    def test_itself_and_its_own_plane(self):
        tilted = made_board([(1, 0, 5, 1), (0, 1, 5, 1), (0, 0, 6, 1)])
        self.check(tilted, tilted, EYE, False)
        self.check(WALL, WALL, EYE, False)
        self.check(square(-1, 1, -1, 1, 10), WALL, EYE, False)
        self.check(WALL, square(-1, 1, -1, 1, 10), EYE, False)
        self.check(WALL, square(3, 9, 3, 9, 10), EYE, False)

    def test_parted_along_an_edge_of_each_alone(self):
        draw = random.Random(7)
        found = 0
        for _ in range(400):
            one, other, spot = drawn_board(draw), drawn_board(draw), drawn_spot(draw)
            if not is_free([one, other], spot) or does_hide(one, other, spot):
                continue
            word, plane = self.check_sight(one, other, spot)
            on_it = [corner for corner in other + (spot,) if side_of(plane, corner) == 0]
            found += len(on_it) == 2 and plane_of(one)[:3] != plane[:3]
        self.assertGreater(found, 10)

    def test_edges_that_go_one_way(self):
        one = made_board([(1, 0, 2, 1), (1, 1, 2, 1), (2, 1, -1, 1)])
        other = made_board([(1, -2, -1, 1), (1, 0, -2, 1), (2, -2, 2, 1)])
        self.check(one, other, (1, -1, -2, 1), False)
        one = made_board([(-2, 2, 0, 1), (0, 0, 1, 1), (2, 2, 0, 1)])
        other = made_board([(-2, -1, 0, 1), (-1, 1, 1, 1), (2, 2, 2, 1)])
        self.check(one, other, (0, 2, 2, 1), False)

    def test_drawn_ones(self):
        draw = random.Random(8)
        words = []
        for _ in range(1200):
            reach = draw.choice([1, 2, 6])
            one, other = drawn_board(draw, reach), drawn_board(draw, reach)
            spot = drawn_spot(draw, draw.choice([2, 9]))
            if is_free([one, other], spot):
                word = self.check_sight(one, other, spot)[0]
                self.assertIs(does_hide(one, other, spot), word == "hides")
                words.append(word)
        self.assertGreater(words.count("hides"), 100)
        self.assertGreater(words.count("parted"), 100)

    def test_a_board_hides_by_some_part_of_it(self):
        draw = random.Random(9)
        for _ in range(150):
            one, other, third = [drawn_board(draw) for _ in range(3)]
            spot = drawn_spot(draw)
            if is_free([one, other], spot):
                halves = [half for half in cut_by(one, plane_of(third)) if half is not None]
                if halves:
                    self.assertIs(does_hide(one, other, spot), any(does_hide(h, other, spot) for h in halves))

    def test_parts_of_more_than_eight_corners(self):
        round_one = tuple(made_spot(k, k * k, 500) for k in range(-5, 6))
        self.check(round_one, square(-100, 100, -100, 100, 1000), EYE, True)
        self.check(square(-100, 100, -100, 100, 1000), round_one, EYE, False)
        self.check(square(-1, 1, 0, 1, 20), round_one, EYE, True)
        self.check(square(-1, 1, -2, 0, 20), round_one, EYE, False)

    def test_many_figures_by_a_hair(self):
        wall = square(-4 * MANY, 4 * MANY, -4 * MANY, 4 * MANY, 10)
        right = 9 * MANY
        self.check(square(2 * MANY - 1, right, -1, 1, 5), wall, EYE, True)
        self.check(square(2 * MANY, right, -1, 1, 5), wall, EYE, False)
        self.check(square(2 * MANY * MANY_TOO - 1, right * MANY_TOO, -1, 1, 5 * MANY_TOO, MANY_TOO), wall, EYE, True)
        near = made_board([(-1, 0, 0, 1), (1, 1, 0, 1), (1, -1, 0, 1)])
        for height, wanted in ((10 * MANY - 1, True), (10 * MANY + 1, False)):
            lifted = square(-MANY, MANY, -MANY, MANY, height, MANY)
            self.check(lifted, WALL, (0, 0, -3, 1), wanted)
            self.check(WALL, lifted, (0, 0, -3, 1), not wanted)
            self.check(near, lifted, (0, 0, -3, 1), True)

    def test_many_figures_drawn(self):
        draw = random.Random(10)
        for figures in (40, 300, 2000):
            reach = 10 ** figures - 1
            for _ in range(3):
                boards = [made_board([drawn_spot(draw, reach, reach) for _ in range(3)]) for _ in range(2)]
                self.check_sight(boards[0], boards[1], drawn_spot(draw, reach, reach))


if __name__ == "__main__":
    unittest.main()
