import random
import unittest
from fractions import Fraction

from boardsight.errors import NoNumber
from boardsight.ratios import between, fraction, minus, over, plus, rising, times, total_of, under
from helper import MANY, MANY_TOO, number_of, refused_with


def told_of(number):
    return (number.numerator, number.denominator)


def drawn_fractions(seed, many, reach):
    draw = random.Random(seed)
    return [fraction(draw.randint(-reach, reach), draw.randint(1, reach)) for _ in range(many)]


class FractionTest(unittest.TestCase):
    def test_lowest_terms(self):
        self.assertEqual(fraction(6, 4), (3, 2))
        self.assertEqual(fraction(-6, 4), (-3, 2))
        self.assertEqual(fraction(3, 7), (3, 7))
        self.assertEqual(fraction(12, 4), (3, 1))
        self.assertIs(type(fraction(6, 4)), tuple)

    def test_nought(self):
        for bottom in (1, 5, -5, MANY):
            self.assertEqual(fraction(0, bottom), (0, 1))
        self.assertEqual(fraction(0), (0, 1))

    def test_without_a_bottom(self):
        self.assertEqual(fraction(5), (5, 1))
        self.assertEqual(fraction(-5), (-5, 1))
        self.assertEqual(fraction(top=4, bottom=6), (2, 3))

    def test_bottom_below_nought_turns_both_about(self):
        self.assertEqual(fraction(6, -4), (-3, 2))
        self.assertEqual(fraction(-6, -4), (3, 2))

    def test_bottom_of_nought_is_refused(self):
        for top in (0, 1, -3, MANY):
            self.assertTrue(refused_with(NoNumber, fraction, top, 0))

    def test_all_short_ones(self):
        for top in range(-12, 13):
            for bottom in list(range(-12, 0)) + list(range(1, 13)):
                self.assertEqual(fraction(top, bottom), told_of(Fraction(top, bottom)))

    def test_many_figures(self):
        self.assertEqual(fraction(MANY * 3, MANY * -7), (-3, 7))
        self.assertEqual(fraction(MANY, MANY_TOO), told_of(Fraction(MANY, MANY_TOO)))
        self.assertEqual(fraction(MANY + 1, MANY), (MANY + 1, MANY))


class ReckoningTest(unittest.TestCase):
    def test_plain_examples(self):
        self.assertEqual(plus((1, 6), (1, 3)), (1, 2))
        self.assertEqual(plus((1, 2), (-1, 2)), (0, 1))
        self.assertEqual(minus((1, 6), (1, 3)), (-1, 6))
        self.assertEqual(minus((2, 3), (2, 3)), (0, 1))
        self.assertEqual(times((2, 3), (-3, 4)), (-1, 2))
        self.assertEqual(times((0, 1), (-3, 4)), (0, 1))
        self.assertEqual(over((2, 3), (-4, 9)), (-3, 2))
        self.assertEqual(over((0, 1), (-4, 9)), (0, 1))

    def check_pair(self, one, other):
        left, right = number_of(one), number_of(other)
        self.assertEqual(plus(one, other), told_of(left + right))
        self.assertEqual(minus(one, other), told_of(left - right))
        self.assertEqual(times(one, other), told_of(left * right))
        if right != 0:
            self.assertEqual(over(one, other), told_of(left / right))
        self.assertIs(under(one, other), left < right)

    def test_against_fractions_reckoned_otherwise(self):
        ones = drawn_fractions(1, 40, 12) + [(0, 1), (1, 1), (-1, 1)]
        for one in ones:
            for other in ones:
                self.check_pair(one, other)

    def test_many_figures(self):
        ones = drawn_fractions(2, 6, MANY) + [(0, 1), (MANY, MANY_TOO), (-MANY, MANY - 1), (1, MANY)]
        for one in ones:
            for other in ones:
                self.check_pair(one, other)

    def test_over_nought_is_refused(self):
        for one in ((0, 1), (1, 2), (-MANY, 3)):
            self.assertTrue(refused_with(NoNumber, over, one, (0, 1)))

    def test_under(self):
        self.assertIs(under((1, 3), (1, 2)), True)
        self.assertIs(under((1, 2), (1, 3)), False)
        self.assertIs(under((1, 2), (1, 2)), False)
        self.assertIs(under((-1, 2), (-1, 3)), True)
        self.assertIs(under((-1, 2), (0, 1)), True)
        self.assertIs(under((MANY, MANY + 1), (MANY - 1, MANY)), False)
        self.assertIs(under((MANY - 1, MANY), (MANY, MANY + 1)), True)


class TotalTest(unittest.TestCase):
    def test_totals(self):
        self.assertEqual(total_of([]), (0, 1))
        self.assertEqual(total_of([(5, 7)]), (5, 7))
        self.assertEqual(total_of([(1, 2), (1, 3), (1, 6)]), (1, 1))
        self.assertEqual(total_of([(1, 2), (-1, 2)]), (0, 1))

    def test_against_fractions_reckoned_otherwise(self):
        for seed in range(20):
            some = drawn_fractions(seed, seed, 30)
            self.assertEqual(total_of(some), told_of(sum(map(number_of, some), Fraction(0))))

    def test_many_figures(self):
        self.assertEqual(total_of([(1, MANY), (MANY, 1), (-1, MANY)]), (MANY, 1))

    def test_the_list_stays(self):
        some = [(1, 2), (1, 3)]
        self.assertEqual(total_of(some), total_of(some))
        self.assertEqual(some, [(1, 2), (1, 3)])


class RisingTest(unittest.TestCase):
    def test_each_once(self):
        self.assertEqual(rising([]), [])
        self.assertEqual(rising([(1, 2), (-1, 3), (1, 2), (0, 1), (2, 3), (0, 1)]), [(-1, 3), (0, 1), (1, 2), (2, 3)])

    def test_drawn_ones(self):
        for seed in range(20):
            some = drawn_fractions(seed, 2 * seed, 6)
            self.assertEqual(list(map(number_of, rising(some))), sorted(set(map(number_of, some))))


class BetweenTest(unittest.TestCase):
    def check(self, low, high):
        told = between(low, high)
        self.assertEqual(told, told_of(number_of(told)))
        self.assertLess(number_of(low), number_of(told))
        self.assertLess(number_of(told), number_of(high))
        return told

    def test_drawn_ones(self):
        for seed in range(40):
            some = rising(drawn_fractions(seed, 9, 10 ** (seed + 1)))
            for low, high in zip(some, some[1:]):
                self.check(low, high)

    def test_neighbours(self):
        self.check((0, 1), (1, 1))
        self.check((0, 1), (1, MANY))
        self.check((MANY - 1, MANY), (1, 1))
        self.check((-1, MANY), (0, 1))
        self.check((MANY - 1, MANY), (MANY, MANY + 1))

    def test_few_figures_in_a_wide_gap(self):
        self.assertLess(self.check((MANY_TOO, MANY), (MANY_TOO + MANY // 3, MANY))[1], 100)


if __name__ == "__main__":
    unittest.main()
