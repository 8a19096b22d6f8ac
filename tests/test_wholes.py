import math
import random
import unittest

from boardsight.wholes import crossed, determinant, greatest_divisor, in_lowest_terms, sign_of


class WholesTest(unittest.TestCase):
    def test_greatest_divisor_of_short_numbers(self):
        for one in range(-30, 31):
            for other in range(-30, 31):
                self.assertEqual(greatest_divisor(one, other), math.gcd(one, other))

    def test_greatest_divisor_of_long_numbers(self):
        draw = random.Random(4)
        for figures in (30, 600, 610, 2000, 5000):
            for _ in range(10):
                shared = draw.randrange(1, 10 ** draw.choice([1, 20, figures]))
                one = shared * draw.randrange(-10 ** figures, 10 ** figures)
                other = shared * draw.randrange(-10 ** figures, 10 ** figures)
                self.assertEqual(greatest_divisor(one, other), math.gcd(one, other))

    def test_greatest_divisor_where_euclid_goes_slowest_or_jumps(self):
        one, other = 1, 1
        for _ in range(20000):
            one, other = other, one + other
        self.assertEqual(greatest_divisor(one, other), 1)
        self.assertEqual(greatest_divisor(one * 77, other * 77), 77)
        self.assertEqual(greatest_divisor(2 ** 9000, 2 ** 3000), 2 ** 3000)
        self.assertEqual(greatest_divisor(2 ** 9000, 2 ** 9000), 2 ** 9000)
        self.assertEqual(greatest_divisor(2 ** 9000 - 1, 2 ** 6000 - 1), 2 ** 3000 - 1)
        self.assertEqual(greatest_divisor(2 ** 9000 + 1, 2 ** 9000), 1)
        self.assertEqual(greatest_divisor(0, 2 ** 9000), 2 ** 9000)

    def test_in_lowest_terms(self):
        self.assertEqual(in_lowest_terms([6, -9, 0]), (2, -3, 0))
        self.assertEqual(in_lowest_terms((0, 0, -7)), (0, 0, -1))
        self.assertEqual(in_lowest_terms((6, 10, 15)), (6, 10, 15))

    def test_sign_of(self):
        self.assertEqual([sign_of(number) for number in (-5, 0, 9)], [-1, 0, 1])

    def test_crossed_and_determinant(self):
        self.assertEqual(crossed((1, 0, 0), (0, 1, 0)), (0, 0, 1))
        self.assertEqual(determinant((1, 2, 3), (4, 5, 6), (7, 8, 10)), -3)


if __name__ == "__main__":
    unittest.main()
