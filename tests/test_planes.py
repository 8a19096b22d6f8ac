import itertools
import math
import random
import unittest

from boardsight.errors import NoPlane, NoSpot
from boardsight.planes import made_plane, met_at, plane_through, side_of, turned_about
from boardsight.spots import in_line, made_spot, shared_spot
from helper import MANY, MANY_TOO, drawn_spot, numbers_of, refused_with


def height(plane, spot):
    x, y, z = numbers_of(spot)
    return plane[0] * x + plane[1] * y + plane[2] * z - plane[3]


class MadePlaneTest(unittest.TestCase):
    def test_lowest_terms(self):
        self.assertEqual(made_plane(2, 4, 6, 8), (1, 2, 3, 4))
        self.assertEqual(made_plane(2, 4, 6, 7), (2, 4, 6, 7))
        self.assertEqual(made_plane(0, 0, 5, 0), (0, 0, 1, 0))
        self.assertIs(type(made_plane(2, 4, 6, 8)), tuple)

    def test_sides_stay_as_told(self):
        self.assertEqual(made_plane(-2, 4, 6, 8), (-1, 2, 3, 4))
        self.assertEqual(made_plane(2, 4, 6, -8), (1, 2, 3, -4))
        self.assertEqual(made_plane(0, -3, 0, -6), (0, -1, 0, -2))
        self.assertEqual(made_plane(a=0, b=0, c=-4, d=2), (0, 0, -2, 1))

    def test_refused_without_an_arrow(self):
        for d in (0, 1, -1, 12, MANY):
            self.assertTrue(refused_with(NoPlane, made_plane, 0, 0, 0, d))

    def test_many_figures(self):
        self.assertEqual(made_plane(MANY * 2, 0, MANY * -4, MANY * 6), (1, 0, -2, 3))
        self.assertEqual(made_plane(MANY, MANY + 1, 0, -MANY), (MANY, MANY + 1, 0, -MANY))


class PlaneThroughTest(unittest.TestCase):
    def check(self, three):
        planes = [plane_through(*order) for order in itertools.permutations(three)]
        self.assertEqual(planes, [planes[0]] * 6)
        plane = planes[0]
        self.assertGreater([number for number in plane[:3] if number != 0][0], 0)
        self.assertEqual(math.gcd(*plane), 1)
        for spot in three:
            self.assertEqual(height(plane, spot), 0)
        return plane

    def test_plain_examples(self):
        axes = [(1, 0, 0, 1), (0, 1, 0, 1), (0, 0, 1, 1)]
        self.assertEqual(self.check(axes), (1, 1, 1, 1))
        self.assertEqual(self.check([(0, 0, -3, 2), (1, 0, -3, 2), (0, 1, -3, 2)]), (0, 0, 2, -3))
        self.assertEqual(self.check([(0, 5, 0, 1), (1, 5, 0, 1), (0, 5, 1, 1)]), (0, 1, 0, 5))
        self.assertEqual(self.check([(0, 0, 0, 1), (0, 0, 1, 1), (1, 1, 0, 1)]), (1, -1, 0, 0))

    def test_drawn_ones(self):
        draw = random.Random(1)
        for _ in range(200):
            three = [drawn_spot(draw) for _ in range(3)]
            if in_line(*three):
                self.assertTrue(refused_with(NoPlane, plane_through, *three))
            else:
                self.check(three)

    def test_refused_in_a_line(self):
        lines = [
            [(0, 0, 0, 1), (1, 2, 3, 1), (2, 4, 6, 1)],
            [(0, 0, 0, 1), (1, 2, 3, 2), (1, 2, 3, 5)],
            [(1, 2, 3, 4), (1, 2, 3, 4), (0, 0, 0, 1)],
            [(1, 2, 3, 4), (1, 2, 3, 4), (1, 2, 3, 4)],
        ]
        for line in lines:
            for order in itertools.permutations(line):
                self.assertTrue(refused_with(NoPlane, plane_through, *order))

    def test_many_figures(self):
        three = [made_spot(MANY, 1, -2, MANY_TOO), made_spot(0, MANY, 5), made_spot(-MANY, 0, MANY, 3)]
        self.check(three)
        line = three[:2] + [shared_spot(three[0], three[1], (MANY, 5))]
        self.assertTrue(refused_with(NoPlane, plane_through, *line))


class SidesTest(unittest.TestCase):
    def test_turned_about(self):
        self.assertEqual(turned_about((1, -2, 0, 4)), (-1, 2, 0, -4))
        self.assertEqual(turned_about(turned_about((1, -2, 0, 4))), (1, -2, 0, 4))
        self.assertIs(type(turned_about((1, -2, 0, 4))), tuple)
        self.assertEqual(turned_about((0, 0, -MANY, MANY_TOO)), (0, 0, MANY, -MANY_TOO))

    def test_side_of(self):
        plane = (1, -2, 3, 4)
        self.assertEqual(side_of(plane, (4, 0, 0, 1)), 0)
        self.assertEqual(side_of(plane, (5, 0, 0, 1)), 1)
        self.assertEqual(side_of(plane, (0, 0, 0, 1)), -1)
        self.assertEqual(side_of(plane, (9, 0, 0, 2)), 1)
        self.assertEqual(side_of(plane, (7, 0, 0, 2)), -1)
        self.assertEqual(side_of(plane, (0, 0, 4, 3)), 0)
        self.assertEqual(side_of(plane, (0, -3, 0, 1)), 1)

    def test_sides_are_exchanged(self):
        draw = random.Random(2)
        for _ in range(200):
            spot = drawn_spot(draw, 3)
            plane = made_plane(draw.choice([-2, 1, 3]), draw.randint(-3, 3), draw.randint(-3, 3), draw.randint(-3, 3))
            found = height(plane, spot)
            wanted = (found > 0) - (found < 0)
            self.assertEqual(side_of(plane, spot), wanted)
            self.assertEqual(side_of(turned_about(plane), spot), -wanted)

    def test_many_figures(self):
        plane = made_plane(MANY, 0, 0, MANY - 1)
        self.assertEqual(side_of(plane, made_spot(MANY - 1, 7, 7, MANY)), 0)
        self.assertEqual(side_of(plane, made_spot(MANY, 7, 7, MANY + 1)), 1)
        self.assertEqual(side_of(plane, made_spot(MANY - 2, 7, 7, MANY - 1)), -1)


class MetAtTest(unittest.TestCase):
    def test_between_and_beyond(self):
        plane = (0, 0, 1, 2)
        self.assertEqual(met_at(plane, (0, 0, 0, 1), (4, 8, 4, 1)), (2, 4, 2, 1))
        self.assertEqual(met_at(plane, (0, 0, 0, 1), (1, 1, 1, 1)), (2, 2, 2, 1))
        self.assertEqual(met_at(plane, (1, 1, 1, 1), (0, 0, 0, 1)), (2, 2, 2, 1))
        self.assertEqual(met_at(plane, (0, 0, 5, 1), (1, -1, 4, 1)), (3, -3, 2, 1))
        self.assertEqual(met_at(plane, (0, 0, 0, 1), (1, 0, 3, 1)), (2, 0, 6, 3))

    def test_at_one_of_the_spots(self):
        plane = (0, 0, 1, 2)
        self.assertEqual(met_at(plane, (7, 1, 2, 1), (0, 0, 0, 1)), (7, 1, 2, 1))
        self.assertEqual(met_at(plane, (0, 0, 0, 1), (7, 1, 4, 2)), (7, 1, 4, 2))

    def test_refused_along_the_plane(self):
        plane = (0, 0, 1, 2)
        self.assertTrue(refused_with(NoSpot, met_at, plane, (0, 0, 1, 1), (5, 1, 1, 1)))
        self.assertTrue(refused_with(NoSpot, met_at, plane, (0, 0, 1, 2), (5, 1, 2, 4)))
        self.assertTrue(refused_with(NoSpot, met_at, plane, (0, 0, 2, 1), (5, 1, 2, 1)))
        self.assertTrue(refused_with(NoSpot, met_at, (1, 1, 1, 0), (0, 0, 0, 1), (1, -1, 0, 3)))

    def check(self, plane, one, other):
        if height(plane, one) == height(plane, other):
            self.assertTrue(refused_with(NoSpot, met_at, plane, one, other))
            return
        found = met_at(plane, one, other)
        self.assertEqual(height(plane, found), 0)
        self.assertTrue(in_line(one, other, found))
        self.assertEqual(math.gcd(*found), 1)
        self.assertGreaterEqual(found[3], 1)
        self.assertEqual(met_at(turned_about(plane), other, one), found)

    def test_drawn_ones(self):
        draw = random.Random(3)
        for _ in range(300):
            plane = made_plane(draw.choice([-2, 1, 3]), draw.randint(-3, 3), draw.randint(-3, 3), draw.randint(-3, 3))
            one, other = drawn_spot(draw, 4), drawn_spot(draw, 4)
            if one != other:
                self.check(plane, one, other)

    def test_many_figures(self):
        plane = made_plane(MANY, -MANY_TOO, 3, MANY - 5)
        self.check(plane, made_spot(MANY, 1, -2, MANY_TOO), made_spot(0, MANY, 5))
        self.check(plane, made_spot(0, 0, 1, MANY), made_spot(MANY_TOO, MANY, 1, MANY_TOO - 1))
        self.check(plane, made_spot(0, 0, 1), made_spot(MANY_TOO, MANY, 1))


if __name__ == "__main__":
    unittest.main()
