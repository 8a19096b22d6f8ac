import random
import unittest
from fractions import Fraction

from boardsight.polygons import area_of, halved_by, left_of
from helper import (
    MANY, MANY_TOO, check_polygon, drawn_place, drawn_polygon, number_of, points_of, told_twice, turn_of,
    where_in_polygon,
)

ONE = (1, 1)
NOUGHT = (0, 1)


def polygon(*pairs):
    return tuple(tuple((Fraction(at).numerator, Fraction(at).denominator) for at in pair) for pair in pairs)


SQUARE = polygon((0, 0), (2, 0), (2, 2), (0, 2))
HALF = Fraction(1, 2)


def drawn_fraction(draw):
    return drawn_place(draw, 4, 5)[0]


def area_by_turns(places):
    points = points_of(places)
    return sum(turn_of(points[0], points[k], points[k + 1]) for k in range(1, len(points) - 1)) / 2


def edges_as_halves(places):
    """For each edge p, q and r such that the polygon is where p * u + q * v + r is from 0 on."""
    points = points_of(places)
    halves = []
    for k, (u, v) in enumerate(points):
        before = points[k - 1]
        p, q = before[1] - v, u - before[0]
        halves.append([(at.numerator, at.denominator) for at in (p, q, -p * u - q * v)])
    return halves


def common_of(one, other):
    for p, q, r in edges_as_halves(other):
        one = None if one is None else halved_by(one, p, q, r)
    return one


class AreaTest(unittest.TestCase):
    def test_known_ones(self):
        self.assertEqual(area_of(SQUARE), (4, 1))
        self.assertEqual(area_of(polygon((0, 0), (1, 0), (0, 1))), (1, 2))
        self.assertEqual(area_of(polygon((-1, 0), (0, -1), (1, 0), (0, 1))), (2, 1))
        self.assertEqual(area_of(polygon((0, 0), (HALF, 0), (0, Fraction(1, 3)))), (1, 12))

    def test_drawn_ones(self):
        draw = random.Random(61)
        for _ in range(150):
            one = drawn_polygon(draw)
            check_polygon(self, one)
            area = told_twice(self, area_of, one)
            self.assertIs(type(area), tuple)
            self.assertEqual(number_of(area), area_by_turns(one))
            self.assertGreater(area[0], 0)

    def test_many_figures(self):
        tiny = polygon((0, 0), (Fraction(1, MANY), 0), (0, Fraction(1, MANY_TOO)))
        self.assertEqual(area_of(tiny), (1, 2 * MANY * MANY_TOO))


class HalvedTest(unittest.TestCase):
    def halved(self, one, p, q, r):
        told = told_twice(self, halved_by, one, p, q, r)
        if told is not None:
            check_polygon(self, told)
        return told

    def test_cut_through(self):
        self.assertEqual(self.halved(SQUARE, ONE, NOUGHT, (-1, 1)), polygon((1, 0), (2, 0), (2, 2), (1, 2)))
        self.assertEqual(self.halved(SQUARE, (-1, 1), NOUGHT, ONE), polygon((0, 0), (1, 0), (1, 2), (0, 2)))
        self.assertEqual(self.halved(SQUARE, NOUGHT, ONE, (-1, 2)), polygon((0, HALF), (2, HALF), (2, 2), (0, 2)))
        self.assertEqual(self.halved(SQUARE, (-1, 2), (-1, 2), ONE), polygon((0, 0), (2, 0), (0, 2)))
        self.assertEqual(self.halved(SQUARE, ONE, ONE, (-2, 1)), polygon((0, 2), (2, 0), (2, 2)))
        self.assertEqual(self.halved(SQUARE, (1, 3), (1, 3), (-1, 1)), polygon((1, 2), (2, 1), (2, 2)))

    def test_begun_anew(self):
        diamond = polygon((-1, 0), (0, -1), (1, 0), (0, 1))
        self.assertEqual(self.halved(diamond, ONE, NOUGHT, NOUGHT), polygon((0, -1), (1, 0), (0, 1)))
        self.assertEqual(self.halved(diamond, NOUGHT, (-1, 1), NOUGHT), polygon((-1, 0), (0, -1), (1, 0)))

    def test_all_of_it_or_none(self):
        self.assertEqual(self.halved(SQUARE, ONE, NOUGHT, ONE), SQUARE)
        self.assertEqual(self.halved(SQUARE, ONE, NOUGHT, NOUGHT), SQUARE)
        self.assertIsNone(self.halved(SQUARE, ONE, NOUGHT, (-3, 1)))

    def test_an_edge_or_a_corner_has_no_area(self):
        self.assertIsNone(self.halved(SQUARE, ONE, NOUGHT, (-2, 1)))
        self.assertIsNone(self.halved(SQUARE, ONE, ONE, (-4, 1)))
        self.assertIsNone(self.halved(SQUARE, (-1, 1), NOUGHT, NOUGHT))
        self.assertIsNotNone(self.halved(SQUARE, ONE, ONE, (-4 * MANY + 1, MANY)))

    def test_the_first_two_nought(self):
        self.assertEqual(self.halved(SQUARE, NOUGHT, NOUGHT, ONE), SQUARE)
        self.assertEqual(self.halved(SQUARE, NOUGHT, NOUGHT, (1, MANY)), SQUARE)
        self.assertIsNone(self.halved(SQUARE, NOUGHT, NOUGHT, (-1, 1)))
        self.assertIsNone(self.halved(SQUARE, NOUGHT, NOUGHT, (-1, MANY)))

    def test_drawn_ones(self):
        draw = random.Random(62)
        cut = 0
        for _ in range(250):
            one = drawn_polygon(draw)
            p, q, r = [drawn_fraction(draw) for _ in range(3)]
            if (p, q, r) == (NOUGHT, NOUGHT, NOUGHT):
                continue
            kept = self.halved(one, p, q, r)
            turned = [(-top, bottom) for top, bottom in (p, q, r)]
            dropped = self.halved(one, turned[0], turned[1], turned[2])
            areas = [area_by_turns(part) for part in (kept, dropped) if part is not None]
            self.assertEqual(sum(areas), area_by_turns(one))
            cut += len(areas) == 2
            for part, sign in ((kept, 1), (dropped, -1)):
                for u, v in points_of(part or ()):
                    height = number_of(p) * u + number_of(q) * v + number_of(r)
                    self.assertGreaterEqual(sign * height, 0)
                for place in part or ():
                    self.assertNotEqual(where_in_polygon(one, place), "off")
        self.assertGreater(cut, 40)

    def test_many_figures(self):
        kept = self.halved(SQUARE, (MANY, 1), NOUGHT, (-1, 1))
        self.assertEqual(kept, polygon((Fraction(1, MANY), 0), (2, 0), (2, 2), (Fraction(1, MANY), 2)))
        kept = self.halved(SQUARE, (-1, MANY_TOO), NOUGHT, (1, MANY * MANY_TOO))
        self.assertEqual(area_of(kept), (2, MANY))


class LeftTest(unittest.TestCase):
    def left(self, one, other):
        told = told_twice(self, left_of, one, other)
        self.assertIs(type(told), list)
        common = common_of(one, other)
        for k, part in enumerate(told):
            check_polygon(self, part)
            self.assertIsNone(common_of(part, other))
            self.assertFalse([place for place in part if where_in_polygon(one, place) == "off"])
            for later in told[k + 1:]:
                self.assertIsNone(common_of(part, later))
        wanted = area_by_turns(one) - (0 if common is None else area_by_turns(common))
        self.assertEqual(sum(area_by_turns(part) for part in told), wanted)
        return told

    def test_nothing_is_left(self):
        self.assertEqual(self.left(SQUARE, SQUARE), [])
        self.assertEqual(self.left(SQUARE, polygon((-1, -1), (3, -1), (3, 3), (-1, 3))), [])
        self.assertEqual(self.left(SQUARE, polygon((0, 0), (4, 0), (0, 4))), [])

    def test_all_is_left(self):
        for other in (
            polygon((5, 0), (6, 0), (5, 1)), polygon((2, 0), (4, 0), (4, 2), (2, 2)), polygon((2, 2), (3, 2), (2, 3)),
            polygon((2, HALF), (3, 0), (3, 1)),
        ):
            self.assertEqual(sum(map(area_by_turns, self.left(SQUARE, other))), 4)

    def test_a_hole(self):
        hole = polygon((HALF, HALF), (1, HALF), (1, 1), (HALF, 1))
        self.assertEqual(sum(map(area_by_turns, self.left(SQUARE, hole))), 4 - Fraction(1, 4))

    def test_a_bite_and_a_stripe(self):
        self.assertEqual(sum(map(area_by_turns, self.left(SQUARE, polygon((1, 1), (3, 1), (3, 3), (1, 3))))), 3)
        self.assertEqual(sum(map(area_by_turns, self.left(SQUARE, polygon((-1, 1), (3, 1), (3, 2), (-1, 2))))), 2)
        stripe = polygon((1, -1), (Fraction(3, 2), -1), (Fraction(3, 2), 3), (1, 3))
        self.assertEqual(sum(map(area_by_turns, self.left(SQUARE, stripe))), 3)

    def test_drawn_ones(self):
        draw = random.Random(63)
        counts = []
        for _ in range(200):
            one, other = drawn_polygon(draw), drawn_polygon(draw)
            counts.append(len(self.left(one, other)))
        self.assertGreater(counts.count(1), 5)
        self.assertGreater(len([many for many in counts if many > 2]), 20)

    def test_many_figures(self):
        sliver = polygon((Fraction(1, MANY), 0), (2, 0), (2, 2), (Fraction(1, MANY), 2))
        left = self.left(SQUARE, sliver)
        self.assertEqual(left, [polygon((0, 0), (Fraction(1, MANY), 0), (Fraction(1, MANY), 2), (0, 2))])


if __name__ == "__main__":
    unittest.main()
