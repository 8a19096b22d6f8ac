import random
import unittest

from boardsight.boards import made_board, middle, plane_of
from boardsight.planes import made_plane, met_at, turned_about
from boardsight.sightjudge import is_parting, sight_judged
from boardsight.sights import does_hide, is_free, sight_of
from boardsight.spots import made_spot, shared_spot
from helper import MANY, drawn_board, drawn_spot, flat_board, numbers_of

EYE = (0, 0, 0, 1)
WALL = flat_board([(-4, -4), (4, -4), (4, 4), (-4, 4)], 10)
PANE = flat_board([(-3, -3), (3, -3), (3, 3), (-3, 3)], 5)
BESIDE = flat_board([(5, -1), (6, -1), (6, 1), (5, 1)], 10)
LEANING = made_board([(-2, -2, 8, 1), (-2, 2, 8, 1), (2, 2, 12, 1), (2, -2, 12, 1)])
LEANING_BACK = made_board([(-2, -2, 12, 1), (-2, 2, 12, 1), (2, 2, 8, 1), (2, -2, 8, 1)])


class PartingTest(unittest.TestCase):
    def test_each_condition_by_itself(self):
        one = flat_board([(0, 0), (1, 0), (0, 1)], 3)
        other = flat_board([(0, 0), (1, 0), (0, 1)], 1)
        plane = (0, 0, 1, 2)
        self.assertIs(is_parting(plane, one, other, EYE), True)
        self.assertIs(is_parting(plane, one, other, (9, 9, 3, 1)), False)
        low = made_board([(0, 0, 1, 1), (1, 0, 3, 1), (0, 1, 3, 1)])
        self.assertIs(is_parting(plane, low, other, EYE), False)
        high = made_board([(0, 0, 3, 1), (1, 0, 1, 1), (0, 1, 1, 1)])
        self.assertIs(is_parting(plane, one, high, EYE), False)
        self.assertIs(is_parting(turned_about(plane), one, other, EYE), False)
        self.assertIs(is_parting(turned_about(plane), other, one, EYE), False)
        self.assertIs(is_parting(turned_about(plane), other, one, (0, 0, 4, 1)), True)

    def test_any_corner_may_break_it(self):
        flat = flat_board([(0, 0), (4, 0), (4, 4), (0, 4)], 2)
        for k in range(4):
            corner = flat[k]
            neighbours = (flat[k - 1], flat[(k + 1) % 4])
            lifted = made_board([(corner[0], corner[1], 3, 1), neighbours[0], neighbours[1]])
            lowered = made_board([(corner[0], corner[1], 1, 1), neighbours[0], neighbours[1]])
            self.assertIs(is_parting((0, 0, 1, 2), lifted, lowered, EYE), True)
            self.assertIs(is_parting((0, 0, 1, 2), lowered, flat, EYE), False)
            self.assertIs(is_parting((0, 0, 1, 2), flat, lifted, EYE), False)

    def test_corners_and_the_spot_may_be_on_it(self):
        board = flat_board([(0, 0), (1, 0), (0, 1)], 2)
        self.assertIs(is_parting((0, 0, 1, 2), board, board, (9, 9, 2, 1)), True)
        self.assertIs(is_parting((0, 0, -1, -2), board, board, (9, 9, 2, 1)), True)
        self.assertIs(is_parting((0, 0, 1, 2), board, board, EYE), True)
        self.assertIs(is_parting((0, 0, -1, -2), board, board, EYE), False)

    def test_it_never_refuses(self):
        board = flat_board([(0, 0), (1, 0), (0, 1)])
        self.assertIs(is_parting((0, 0, 1, 0), board, board, EYE), True)
        self.assertIs(is_parting((1, 0, 0, 5), board, board, EYE), False)

    def test_drawn_ones(self):
        draw = random.Random(1)
        found = 0
        for _ in range(600):
            one, other, spot = drawn_board(draw), drawn_board(draw), drawn_spot(draw)
            plane = made_plane(draw.choice([-1, 1, 2]), draw.randint(-2, 2), draw.randint(-2, 2), draw.randint(-9, 9))

            def height(at):
                x, y, z = numbers_of(at)
                return plane[0] * x + plane[1] * y + plane[2] * z - plane[3]

            wanted = min(map(height, one)) >= 0 and max(map(height, other + (spot,))) <= 0
            self.assertIs(is_parting(plane, one, other, spot), wanted)
            found += wanted
        self.assertGreater(found, 3)

    def test_many_figures(self):
        one = flat_board([(0, 0), (MANY, 0), (0, MANY)], MANY + 1, MANY)
        other = flat_board([(0, 0), (MANY, 0), (0, MANY)], MANY - 1, MANY)
        self.assertIs(is_parting((0, 0, 1, 1), one, other, EYE), True)
        self.assertIs(is_parting((0, 0, 1, 1), other, one, EYE), False)
        self.assertIs(is_parting((0, 0, 1, 1), one, other, made_spot(0, 0, MANY, MANY - 1)), False)
        self.assertIs(is_parting((0, 0, MANY, MANY + 1), one, other, made_spot(0, 0, MANY, MANY - 1)), False)
        self.assertIs(is_parting((0, 0, MANY, MANY + 1), one, other, made_spot(0, 0, MANY + 1, MANY)), True)


class SightTest(unittest.TestCase):
    def judged(self, *told):
        return sight_judged(PANE, WALL, EYE, told)

    def test_right_sights(self):
        self.assertIs(self.judged("hides", (0, 0, 5, 1), (0, 0, 10, 1)), True)
        self.assertIs(self.judged("hides", (1, -1, 5, 1), (2, -2, 10, 1)), True)
        self.assertIs(self.judged("hides", (19, 19, 50, 10), (19, 19, 50, 5)), True)
        self.assertIs(sight_judged(PANE, WALL, EYE, sight_of(PANE, WALL, EYE)), True)

    def test_on_a_rim(self):
        self.assertIs(self.judged("hides", (2, 0, 5, 1), (4, 0, 10, 1)), False)
        self.assertIs(self.judged("hides", (2, 2, 5, 1), (4, 4, 10, 1)), False)
        wide = flat_board([(-9, -9), (9, -9), (9, 9), (-9, 9)], 10)
        self.assertIs(sight_judged(PANE, wide, EYE, ("hides", (3, 0, 5, 1), (6, 0, 10, 1))), False)
        self.assertIs(sight_judged(PANE, wide, EYE, ("hides", (2, 0, 5, 1), (4, 0, 10, 1))), True)

    def test_near_and_far_exchanged(self):
        self.assertIs(self.judged("hides", (0, 0, 10, 1), (0, 0, 5, 1)), False)
        self.assertIs(sight_judged(WALL, PANE, EYE, ("hides", (0, 0, 10, 1), (0, 0, 5, 1))), False)

    def test_near_at_the_spot_or_at_far(self):
        self.assertIs(self.judged("hides", EYE, (0, 0, 10, 1)), False)
        self.assertIs(self.judged("hides", (0, 0, 10, 1), (0, 0, 10, 1)), False)
        cross = ("hides", (0, 0, 10, 1), (0, 0, 10, 1))
        self.assertIs(sight_judged(LEANING, LEANING_BACK, EYE, cross), False)
        self.assertIs(does_hide(LEANING, LEANING_BACK, EYE), True)

    def test_off_the_line(self):
        self.assertIs(self.judged("hides", (1, 0, 5, 1), (0, 0, 10, 1)), False)
        self.assertIs(self.judged("hides", (1, 0, 5, 1), (2, 1, 10, 1)), False)

    def test_off_the_boards(self):
        self.assertIs(self.judged("hides", (0, 0, 6, 1), (0, 0, 10, 1)), False)
        self.assertIs(self.judged("hides", (0, 0, 5, 1), (0, 0, 11, 1)), False)
        self.assertIs(self.judged("hides", (3, 3, 5, 1), (6, 6, 10, 1)), False)

    def test_behind_the_spot(self):
        behind = flat_board([(-3, -3), (3, -3), (3, 3), (-3, 3)], -5)
        self.assertIs(sight_judged(behind, WALL, EYE, ("hides", (0, 0, -5, 1), (0, 0, 10, 1))), False)

    def test_no_parting_where_it_hides(self):
        for plane in ((0, 0, 1, 5), (0, 0, -1, -5), (0, 0, 1, 10), (0, 0, -1, -10), (1, 0, 0, 0), (0, 0, -1, 0)):
            self.assertIs(self.judged("parted", plane), False)

    def test_partings(self):
        for plane, wanted in (
            ((1, 0, 0, 5), True), ((1, 0, 0, 4), True), ((2, 0, 0, 9), True), ((0, 0, 1, 10), True),
            ((-1, 0, 0, -5), False), ((2, 0, 0, 11), False), ((2, 0, 0, 7), False), ((0, 0, -1, -10), False),
        ):
            self.assertIs(sight_judged(BESIDE, WALL, EYE, ("parted", plane)), wanted)
        self.assertIs(sight_judged(BESIDE, WALL, (9, 0, 0, 1), ("parted", (1, 0, 0, 5))), False)

    def test_told_ones_spoiled(self):
        draw = random.Random(2)
        for _ in range(400):
            one, other, spot = drawn_board(draw), drawn_board(draw), drawn_spot(draw)
            if not is_free([one, other], spot):
                continue
            told = sight_of(one, other, spot)
            self.assertIs(sight_judged(one, other, spot, told), True)
            if told[0] == "parted":
                self.assertIs(sight_judged(one, other, spot, ("parted", turned_about(told[1]))), False)
            else:
                self.spoil_sight(one, other, spot, told)

    def spoil_sight(self, one, other, spot, told):
        near, far = told[1], told[2]
        wrong = [
            (far, near), (spot, far), (near, spot), (near, near), (far, far), (near, shared_spot(near, far, (1, 2))),
            (shared_spot(spot, near, (1, 2)), far), (one[0], far), (near, other[0]),
        ]
        if middle(one) != near:
            wrong.append((middle(one), far))
        for pair in wrong:
            self.assertIs(sight_judged(one, other, spot, ("hides", pair[0], pair[1])), False)
        for plane in (plane_of(one), plane_of(other)):
            self.assertIs(sight_judged(one, other, spot, ("parted", plane)), False)
            self.assertIs(sight_judged(one, other, spot, ("parted", turned_about(plane))), False)

    def test_many_figures(self):
        near = made_spot(2 * MANY - 1, 0, 5 * MANY, MANY)
        far = met_at(plane_of(WALL), EYE, near)
        self.assertIs(self.judged("hides", near, far), True)
        self.assertIs(self.judged("hides", near, made_spot(far[0] + 1, far[1], far[2], far[3])), False)
        past = made_spot(2 * MANY + 1, 0, 5 * MANY, MANY)
        self.assertIs(self.judged("hides", past, met_at(plane_of(WALL), EYE, past)), False)
        self.assertIs(sight_judged(BESIDE, WALL, EYE, ("parted", made_plane(MANY, 0, 0, 5 * MANY - 1))), True)
        self.assertIs(sight_judged(BESIDE, WALL, EYE, ("parted", made_plane(MANY, 0, 0, 5 * MANY + 1))), False)
        self.assertIs(sight_judged(BESIDE, WALL, EYE, ("parted", made_plane(MANY, 0, 0, 4 * MANY - 1))), False)


if __name__ == "__main__":
    unittest.main()
