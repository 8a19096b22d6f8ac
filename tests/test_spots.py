import itertools
import math
import random
import unittest
from fractions import Fraction

from boardsight.errors import NoSpot
from boardsight.ratios import fraction
from boardsight.spots import in_line, made_spot, shared_spot, stands_first, strictly_between
from helper import MANY, MANY_TOO, drawn_spot, number_of, numbers_of, refused_with


class MadeSpotTest(unittest.TestCase):
    def test_lowest_terms(self):
        self.assertEqual(made_spot(2, 4, 6, 8), (1, 2, 3, 4))
        self.assertEqual(made_spot(2, 4, 6, 9), (2, 4, 6, 9))
        self.assertEqual(made_spot(0, 0, 0, 5), (0, 0, 0, 1))
        self.assertEqual(made_spot(6, -10, 15, 30), (6, -10, 15, 30))
        self.assertIs(type(made_spot(2, 4, 6, 8)), tuple)

    def test_without_w(self):
        self.assertEqual(made_spot(2, -4, 6), (2, -4, 6, 1))
        self.assertEqual(made_spot(0, 0, 0), (0, 0, 0, 1))
        self.assertEqual(made_spot(x=2, y=4, z=0, w=2), (1, 2, 0, 1))

    def test_w_below_nought_turns_all_about(self):
        self.assertEqual(made_spot(1, -2, 0, -3), (-1, 2, 0, 3))
        self.assertEqual(made_spot(2, 4, 6, -8), (-1, -2, -3, 4))

    def test_w_of_nought_is_refused(self):
        for numbers in ((0, 0, 0), (1, 2, 3), (MANY, 0, -1)):
            self.assertTrue(refused_with(NoSpot, made_spot, *numbers, 0))

    def test_all_short_ones(self):
        for x, y, z, w in itertools.product((-6, -4, 0, 3, 4), repeat=4):
            if w != 0:
                spot = made_spot(x, y, z, w)
                self.assertEqual(numbers_of(spot), tuple(Fraction(k, w) for k in (x, y, z)))
                self.assertGreaterEqual(spot[3], 1)
                self.assertEqual(math.gcd(*spot), 1)

    def test_many_figures(self):
        spot = made_spot(MANY * 2, MANY * -3, 0, MANY * -6)
        self.assertEqual(spot, (-2, 3, 0, 6))
        self.assertEqual(made_spot(MANY, MANY + 1, 0, 1), (MANY, MANY + 1, 0, 1))


class StandsFirstTest(unittest.TestCase):
    def test_by_each_number_in_turn(self):
        self.assertIs(stands_first((1, 9, 9, 1), (2, 0, 0, 1)), True)
        self.assertIs(stands_first((2, 0, 0, 1), (1, 9, 9, 1)), False)
        self.assertIs(stands_first((1, 2, 9, 1), (1, 3, 0, 1)), True)
        self.assertIs(stands_first((1, 3, 0, 1), (1, 2, 9, 1)), False)
        self.assertIs(stands_first((1, 2, 3, 1), (1, 2, 4, 1)), True)
        self.assertIs(stands_first((1, 2, 4, 1), (1, 2, 3, 1)), False)

    def test_numbers_go_by_w(self):
        self.assertIs(stands_first((5, 0, 0, 3), (2, 0, 0, 1)), True)
        self.assertIs(stands_first((2, 0, 0, 1), (5, 0, 0, 3)), False)
        self.assertIs(stands_first((1, 5, 0, 2), (1, 4, 0, 2)), False)

    def test_one_spot_and_itself(self):
        for spot in ((0, 0, 0, 1), (1, -2, 3, 7), (MANY, 1, 0, 1)):
            self.assertIs(stands_first(spot, spot), False)

    def test_like_lists_of_fractions(self):
        draw = random.Random(1)
        spots = [drawn_spot(draw, 2) for _ in range(60)]
        for one, other in itertools.product(spots, spots):
            self.assertIs(stands_first(one, other), numbers_of(one) < numbers_of(other))

    def test_many_figures(self):
        one = made_spot(MANY, 0, 0, MANY + 1)
        other = made_spot(MANY - 1, 0, 0, MANY)
        self.assertIs(stands_first(other, one), True)
        self.assertIs(stands_first(one, other), False)


class SharedSpotTest(unittest.TestCase):
    def test_plain_examples(self):
        one, other = (0, 0, 0, 1), (3, -6, 9, 1)
        self.assertEqual(shared_spot(one, other, (0, 1)), one)
        self.assertEqual(shared_spot(one, other, (1, 1)), other)
        self.assertEqual(shared_spot(one, other, (1, 3)), (1, -2, 3, 1))
        self.assertEqual(shared_spot(one, other, (1, 2)), (3, -6, 9, 2))
        self.assertEqual(shared_spot(one, other, (-1, 3)), (-1, 2, -3, 1))
        self.assertEqual(shared_spot(one, other, (2, 1)), (6, -12, 18, 1))

    def check(self, one, other, t):
        found = shared_spot(one, other, t)
        for was, start, end in zip(numbers_of(found), numbers_of(one), numbers_of(other)):
            self.assertEqual(was, start + number_of(t) * (end - start))
        self.assertGreaterEqual(found[3], 1)
        self.assertEqual(math.gcd(*found), 1)

    def test_drawn_ones(self):
        draw = random.Random(2)
        for _ in range(300):
            t = fraction(draw.randint(-6, 6), draw.randint(1, 4))
            self.check(drawn_spot(draw), drawn_spot(draw), t)

    def test_one_spot_with_itself(self):
        self.assertEqual(shared_spot((1, 2, 3, 4), (1, 2, 3, 4), (5, 7)), (1, 2, 3, 4))

    def test_many_figures(self):
        one, other = made_spot(MANY, -1, 0, MANY_TOO), made_spot(0, MANY, 5, MANY)
        for t in ((1, MANY), (-MANY, 3), (MANY, MANY - 1), (0, 1), (1, 1)):
            self.check(one, other, t)


class InLineTest(unittest.TestCase):
    def check(self, three, wanted):
        for one, other, third in itertools.permutations(three):
            self.assertIs(in_line(one, other, third), wanted)

    def test_in_any_order(self):
        self.check([(0, 0, 0, 1), (1, 2, 3, 1), (-2, -4, -6, 1)], True)
        self.check([(1, 1, 1, 1), (1, 2, 3, 2), (3, 2, 1, 2)], True)
        self.check([(0, 0, 0, 1), (1, 2, 3, 1), (2, 4, 7, 1)], False)
        self.check([(0, 0, 0, 1), (1, 2, 3, 1), (2, 5, 6, 1)], False)
        self.check([(0, 0, 0, 1), (1, 2, 3, 1), (3, 4, 6, 1)], False)
        self.check([(0, 0, 5, 1), (0, 1, 5, 1), (1, 0, 5, 1)], False)

    def test_along_the_axes(self):
        self.check([(0, 0, 0, 1), (1, 0, 0, 1), (7, 0, 0, 2)], True)
        self.check([(0, 0, 0, 1), (0, 1, 0, 1), (0, -7, 0, 2)], True)
        self.check([(0, 0, 0, 1), (0, 0, 1, 1), (0, 0, 7, 2)], True)

    def test_where_two_are_the_same(self):
        self.check([(1, 2, 3, 4), (1, 2, 3, 4), (7, 0, 0, 1)], True)
        self.check([(1, 2, 3, 4), (1, 2, 3, 4), (1, 2, 3, 4)], True)

    def test_many_figures(self):
        one, other = made_spot(MANY, 1, -2, MANY_TOO), made_spot(3, -MANY, 5)
        third = shared_spot(one, other, (MANY_TOO, 7))
        self.check([one, other, third], True)
        beside = made_spot(third[0], third[1], third[2] + 1, third[3])
        self.check([one, other, beside], False)


class StrictlyBetweenTest(unittest.TestCase):
    def test_between(self):
        self.assertIs(strictly_between((1, 1, 1, 1), (0, 0, 0, 1), (2, 2, 2, 1)), True)
        self.assertIs(strictly_between((1, 1, 1, 1), (2, 2, 2, 1), (0, 0, 0, 1)), True)
        self.assertIs(strictly_between((1, 0, 0, 3), (0, 0, 0, 1), (1, 0, 0, 2)), True)

    def test_at_either_end(self):
        self.assertIs(strictly_between((0, 0, 0, 1), (0, 0, 0, 1), (2, 2, 2, 1)), False)
        self.assertIs(strictly_between((2, 2, 2, 1), (0, 0, 0, 1), (2, 2, 2, 1)), False)

    def test_beyond_the_ends(self):
        self.assertIs(strictly_between((3, 3, 3, 1), (0, 0, 0, 1), (2, 2, 2, 1)), False)
        self.assertIs(strictly_between((-1, -1, -1, 1), (0, 0, 0, 1), (2, 2, 2, 1)), False)

    def test_off_the_line(self):
        for off in ((1, 1, 2, 1), (1, 2, 1, 1), (2, 1, 1, 1)):
            self.assertIs(strictly_between(off, (0, 0, 0, 1), (2, 2, 2, 1)), False)

    def test_where_one_is_far(self):
        spot = (1, 2, 3, 5)
        self.assertIs(strictly_between(spot, spot, spot), False)
        self.assertIs(strictly_between((1, 1, 1, 1), spot, spot), False)

    def test_shared_spots(self):
        draw = random.Random(3)
        for _ in range(300):
            one, far = drawn_spot(draw), drawn_spot(draw)
            t = fraction(draw.randint(-4, 8), 4)
            wanted = one != far and 0 < number_of(t) < 1
            self.assertIs(strictly_between(shared_spot(one, far, t), one, far), wanted)

    def test_many_figures(self):
        one, far = made_spot(MANY, 1, -2, MANY_TOO), made_spot(3, -MANY, 5)
        for t, wanted in (((1, MANY), True), ((MANY - 1, MANY), True), ((-1, MANY), False), ((MANY, MANY - 1), False)):
            self.assertIs(strictly_between(shared_spot(one, far, t), one, far), wanted)


if __name__ == "__main__":
    unittest.main()
