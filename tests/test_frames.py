import random
import unittest
from fractions import Fraction

from boardsight.boards import made_board, plane_of
from boardsight.errors import NoFrame, NotFree
from boardsight.frames import image_of, made_frame, nearness, place_spot
from boardsight.planes import met_at, side_of
from boardsight.sights import is_free
from boardsight.spots import made_spot
from helper import (
    MANY, check_polygon, drawn_board, drawn_frame, drawn_place, number_of, numbers_of, ray_meets, refusal_of,
    refused_with, sheet, spot_on_frame, told_twice, where_in_polygon,
)

EYE = (0, 0, 0, 1)
# Two wide and two high, one before the eye: u and v are 1 by 2 straight ahead.
FRAME = made_frame(EYE, (-1, -1, 1, 1), (2, 0, 0), (0, 2, 0))
WHOLE = (((0, 1), (0, 1)), ((1, 1), (0, 1)), ((1, 1), (1, 1)), ((0, 1), (1, 1)))


def places(*pairs):
    return tuple(tuple((Fraction(at).numerator, Fraction(at).denominator) for at in pair) for pair in pairs)


QUARTER = Fraction(1, 4)
HALF = Fraction(1, 2)


class MadeTest(unittest.TestCase):
    def test_the_tuple(self):
        told = told_twice(self, made_frame, EYE, (1, 2, 3, 4), (5, 6, 7), (8, 9, 11))
        self.assertEqual(told, (EYE, (1, 2, 3, 4), (5, 6, 7), (8, 9, 11)))
        self.assertIs(type(told), tuple)

    def test_no_arrow(self):
        for across, up in (((0, 0, 0), (0, 1, 0)), ((1, 0, 0), (0, 0, 0)), ((0, 0, 0), (0, 0, 0))):
            self.assertTrue(refused_with(NoFrame, made_frame, EYE, (0, 0, 1, 1), across, up))

    def test_both_along_one_line(self):
        for across, up in (
            ((1, 2, 3), (1, 2, 3)), ((1, 2, 3), (-2, -4, -6)), ((0, 0, 5), (0, 0, 1)), ((0, 4, -2), (0, -6, 3)),
            ((MANY, 2 * MANY, 0), (1, 2, 0)),
        ):
            for corner in ((0, 0, 1, 1), (7, -3, 1, 2)):
                self.assertTrue(refused_with(NoFrame, made_frame, EYE, corner, across, up))
        self.assertFalse(refused_with(NoFrame, made_frame, EYE, (0, 0, 1, 1), (MANY, 1, 0), (MANY + 1, 1, 0)))

    def test_the_eye_in_the_plane(self):
        across, up = (2, 0, 1), (0, 3, 1)
        for u in range(-2, 3):
            for v in range(-2, 3):
                eye = made_spot(1 + 2 * u * 3, 1 + 3 * v * 3, 1 + u * 3 + v * 3, 3)
                self.assertTrue(refused_with(NoFrame, made_frame, eye, made_spot(1, 1, 1, 3), across, up))
                above = made_spot(1 + 2 * u * 3, 1 + 3 * v * 3, 2 + u * 3 + v * 3, 3)
                self.assertFalse(refused_with(NoFrame, made_frame, above, made_spot(1, 1, 1, 3), across, up))
        by_a_hair = made_spot(0, 0, MANY + 1, MANY)
        self.assertTrue(refused_with(NoFrame, made_frame, by_a_hair, by_a_hair, (1, 0, 0), (0, 1, 0)))
        self.assertFalse(refused_with(NoFrame, made_frame, by_a_hair, (0, 0, 1, 1), (1, 0, 0), (0, 1, 0)))

    def test_the_corner_may_be_anywhere_else(self):
        self.assertTrue(refused_with(NoFrame, made_frame, EYE, EYE, (1, 0, 0), (0, 1, 0)))
        self.assertTrue(refused_with(NoFrame, made_frame, (9, 9, 0, 1), EYE, (1, 0, 0), (0, 1, 0)))
        self.assertFalse(refused_with(NoFrame, made_frame, (0, 0, 1, 1), EYE, (1, 0, 0), (0, 1, 0)))


class PlaceTest(unittest.TestCase):
    def test_corners_and_beyond(self):
        for place, spot in (
            (((0, 1), (0, 1)), (-1, -1, 1, 1)), (((1, 1), (0, 1)), (1, -1, 1, 1)), (((1, 1), (1, 1)), (1, 1, 1, 1)),
            (((0, 1), (1, 1)), (-1, 1, 1, 1)), (((1, 2), (1, 2)), (0, 0, 1, 1)), (((1, 3), (1, 5)), (-5, -9, 15, 15)),
            (((-2, 1), (7, 2)), (-5, 6, 1, 1)),
        ):
            self.assertEqual(told_twice(self, place_spot, FRAME, place), spot)

    def test_a_corner_with_w(self):
        frame = made_frame(EYE, made_spot(1, 2, 5, 6), (1, -1, 0), (0, 3, 1))
        self.assertEqual(place_spot(frame, ((1, 2), (1, 3))), made_spot(4, 5, 7, 6))

    def test_drawn_ones(self):
        draw = random.Random(71)
        for _ in range(200):
            frame, place = drawn_frame(draw), drawn_place(draw, 3)
            spot = place_spot(frame, place)
            self.assertEqual(spot, made_spot(spot[0], spot[1], spot[2], spot[3]))
            self.assertEqual(numbers_of(spot), spot_on_frame(frame, place))

    def test_many_figures(self):
        place = ((MANY, 1), (1, MANY))
        self.assertEqual(place_spot(FRAME, place), made_spot((2 * MANY - 1) * MANY, 2 - MANY, MANY, MANY))


class ImageTest(unittest.TestCase):
    def image(self, board, frame=FRAME):
        told = told_twice(self, image_of, frame, board)
        if told is not None:
            check_polygon(self, told)
        return told

    def test_behind_the_frame(self):
        self.assertEqual(self.image(sheet(-1, 1, -1, 1, 2)),
                         places((QUARTER, QUARTER), (3 * QUARTER, QUARTER), (3 * QUARTER, 3 * QUARTER),
                                (QUARTER, 3 * QUARTER)))
        self.assertEqual(self.image(sheet(0, 2, 0, 2, 2)), places((HALF, HALF), (1, HALF), (1, 1), (HALF, 1)))

    def test_in_the_frame_and_before_it(self):
        self.assertEqual(self.image(sheet(-1, 0, -1, 0, 1)), places((0, 0), (HALF, 0), (HALF, HALF), (0, HALF)))
        near = made_board([made_spot(0, 0, 1, 2), made_spot(1, 0, 1, 4), made_spot(0, 1, 1, 2)])
        self.assertEqual(self.image(near), places((HALF, HALF), (1, HALF), (HALF, 1)))
        half_way = made_board([made_spot(-1, -1, 1, 2), made_spot(0, -1, 1, 2), made_spot(0, 0, 1, 2)])
        self.assertEqual(self.image(half_way), places((0, 0), (HALF, 0), (HALF, HALF)))

    def test_all_of_the_frame(self):
        self.assertEqual(self.image(sheet(-9, 9, -9, 9, 3)), WHOLE)
        self.assertEqual(self.image(sheet(-3, 3, -3, 3, 3)), WHOLE)

    def test_partly_beside(self):
        wanted = places((3 * QUARTER, 0), (1, 0), (1, 1), (3 * QUARTER, 1))
        self.assertEqual(self.image(sheet(1, 30, -30, 30, 2)), wanted)

    def test_all_beside(self):
        self.assertIsNone(self.image(sheet(5, 9, -1, 1, 2)))
        self.assertIsNone(self.image(sheet(5, 9, 5, 9, 2)))

    def test_on_the_frames_rim_alone(self):
        self.assertIsNone(self.image(sheet(2, 9, -1, 1, 2)))
        self.assertIsNone(self.image(sheet(2, 9, 2, 9, 2)))
        self.assertIsNotNone(self.image(made_board([made_spot(2 * MANY - 1, 0, 2 * MANY, MANY), (9, 1, 2, 1),
                                                    (9, -1, 2, 1)])))

    def test_behind_the_eye(self):
        self.assertIsNone(self.image(sheet(-1, 1, -1, 1, -2)))
        self.assertIsNone(self.image(sheet(-9, 9, -9, 9, -1)))

    def test_around_the_eye(self):
        floor = made_board([(-20, -1, -30, 1), (20, -1, -30, 1), (20, -1, 30, 1), (-20, -1, 30, 1)])
        self.assertEqual(self.image(floor), self.image(made_board([(-20, -1, -5, 1), (20, -1, -5, 1),
                                                                   (20, -1, 30, 1), (-20, -1, 30, 1)])))
        low, top = places((0, 0), (1, 0)), Fraction(29, 60)
        self.assertEqual(self.image(floor), low + places((1, Fraction(19, 40)), (Fraction(5, 6), top),
                                                         (Fraction(1, 6), top), (0, Fraction(19, 40))))
        leaning = made_board([(-1, 1, -1, 1), (1, 1, -1, 1), (1, 1, 3, 1), (-1, 1, 3, 1)])
        self.assertEqual(self.image(leaning)[0], places((0, 1))[0])

    def test_an_edge_at_the_eyes_level(self):
        ahead = made_board([(3, -1, 0, 1), (3, 1, 0, 1), (3, 1, 9, 1), (3, -1, 9, 1)])
        wanted = places((Fraction(2, 3), Fraction(4, 9)), (1, Fraction(1, 3)), (1, Fraction(2, 3)),
                        (Fraction(2, 3), Fraction(5, 9)))
        self.assertEqual(self.image(ahead), wanted)
        self.assertIsNone(self.image(made_board([(3, -1, 0, 1), (3, 1, 0, 1), (3, 1, -9, 1), (3, -1, -9, 1)])))

    def test_drawn_ones(self):
        draw = random.Random(72)
        seen = beside = met_often = 0
        for _ in range(400):
            frame, board = drawn_frame(draw), drawn_board(draw, 3)
            if not is_free([board], frame[0]):
                continue
            image = self.image(board, frame)
            seen += image is not None
            beside += image is None
            met = []
            for _ in range(8):
                place = drawn_place(draw, 1, 11)
                if ray_meets(frame, board, place) is not None:
                    met.append(place)
                if image is not None:
                    self.assertEqual(where_in_polygon(image, place) != "off", place in met)
            if image is None:
                self.check_no_area(met)
            else:
                self.check_rim(frame, board, image)
                met_often += len(met) > 2
        self.assertGreater(seen, 100)
        self.assertGreater(beside, 100)
        self.assertGreater(met_often, 30)

    def check_no_area(self, met):
        on_rim = [place for place in met if (0, 1) in place or (1, 1) in place]
        self.assertEqual(met, on_rim)

    def check_rim(self, frame, board, image):
        for k, place in enumerate(image):
            self.assertIsNotNone(ray_meets(frame, board, place))
            for at in place:
                self.assertTrue(0 <= number_of(at) <= 1)
            before = image[k - 1]
            half = places([(number_of(a) + number_of(b)) / 2 for a, b in zip(place, before)])[0]
            self.assertIsNotNone(ray_meets(frame, board, half))

    def test_more_corners_than_the_board(self):
        board = made_board([made_spot(-3, 0, 1, 2), made_spot(0, -3, 1, 2), made_spot(3, 0, 1, 2),
                            made_spot(0, 3, 1, 2)])
        small = made_frame(EYE, made_spot(-4, -4, 1, 2), (4, 0, 0), (0, 4, 0))
        self.assertEqual(len(self.image(board, small)), 4)
        diamond = made_board([(-3, 0, 2, 1), (0, -3, 2, 1), (3, 0, 2, 1), (0, 3, 2, 1)])
        self.assertEqual(len(self.image(diamond)), 8)

    def test_many_figures(self):
        board = made_board([(-1, -1, MANY, 1), (1, -1, MANY, 1), (1, 1, MANY, 1), (-1, 1, MANY, 1)])
        low, high = HALF - Fraction(1, 2 * MANY), HALF + Fraction(1, 2 * MANY)
        self.assertEqual(self.image(board), places((low, low), (high, low), (high, high), (low, high)))

    def test_not_free(self):
        for deed in (image_of, nearness):
            for board in (sheet(5, 6, 5, 6, 0), sheet(-1, 1, -1, 1, 0)):
                refusal = refusal_of(deed, FRAME, board)
                self.assertIsInstance(refusal, NotFree)
                self.assertEqual(refusal.board, 0)


class NearnessTest(unittest.TestCase):
    def test_known_ones(self):
        self.assertEqual(told_twice(self, nearness, FRAME, sheet(-1, 1, -1, 1, 2)), ((0, 1), (0, 1), (1, 2)))
        self.assertEqual(nearness(FRAME, sheet(-1, 1, -1, 1, 1)), ((0, 1), (0, 1), (1, 1)))
        self.assertEqual(nearness(FRAME, sheet(-1, 1, -1, 1, -5)), ((0, 1), (0, 1), (-1, 5)))
        upright = made_board([(3, 0, 1, 1), (3, 0, 9, 1), (3, 4, 1, 1)])
        self.assertEqual(nearness(FRAME, upright), ((2, 3), (0, 1), (-1, 3)))
        level = made_board([(0, -5, 1, 1), (1, -5, 9, 1), (-1, -5, 9, 1)])
        self.assertEqual(nearness(FRAME, level), ((0, 1), (-2, 5), (1, 5)))

    def test_eye_and_corner_with_w(self):
        frame = made_frame(made_spot(1, 1, 1, 2), made_spot(1, 2, 9, 3), (1, 0, 2), (0, 1, -1))
        board = made_board([(0, 0, 7, 1), (1, 0, 8, 1), (0, 1, 6, 1)])
        self.check_along(frame, board, ((1, 3), (2, 5)))

    def check_along(self, frame, board, place):
        p, q, r = [number_of(one) for one in nearness(frame, board)]
        value = p * number_of(place[0]) + q * number_of(place[1]) + r
        eye, stand = numbers_of(frame[0]), spot_on_frame(frame, place)
        if value == 0:
            plane = plane_of(board)
            self.assertEqual(sum(plane[k] * (stand[k] - eye[k]) for k in range(3)), 0)
            return 0
        spot = met_at(plane_of(board), frame[0], place_spot(frame, place))
        self.assertEqual(numbers_of(spot), tuple(a + (b - a) / value for a, b in zip(eye, stand)))
        return 1 if value > 0 else -1

    def test_drawn_ones(self):
        draw = random.Random(73)
        sides = []
        for _ in range(300):
            frame, board = drawn_frame(draw), drawn_board(draw, 3)
            if side_of(plane_of(board), frame[0]) == 0:
                continue
            told = told_twice(self, nearness, frame, board)
            self.assertEqual([type(one) for one in told], [tuple] * 3)
            self.assertEqual(told, tuple((number_of(one).numerator, number_of(one).denominator) for one in told))
            for _ in range(4):
                sides.append(self.check_along(frame, board, drawn_place(draw, 4, 3)))
                s = ray_meets(frame, board, drawn_place(draw))
                self.assertTrue(s is None or s > 0)
        self.assertEqual(set(sides), {-1, 0, 1})

    def test_many_figures(self):
        far = made_board([(-1, -1, MANY, 1), (1, -1, MANY, 1), (1, 1, MANY, 1)])
        self.assertEqual(nearness(FRAME, far), ((0, 1), (0, 1), (1, MANY)))


if __name__ == "__main__":
    unittest.main()
