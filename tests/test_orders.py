import random
import unittest
from itertools import permutations

from boardsight.boards import made_board, middle, plane_of
from boardsight.errors import NotFree
from boardsight.orders import hiding_pairs, order_from, order_judged
from boardsight.planes import met_at, turned_about
from boardsight.sightjudge import is_parting, sight_judged
from boardsight.sights import does_hide, sight_of
from boardsight.spots import made_spot, shared_spot, strictly_between
from helper import (
    CROSS, FOUR_RING, HIGH_UP, MANY, THREE_RING, drawn_board, drawn_scene, drawn_spot, flat_board, hides_later,
    refusal_of, sheet, told_twice,
)

EYE = (0, 0, 0, 1)


def stack(depths):
    return [sheet(-1, 1, -1, 1, depth) for depth in depths]


def least_by_trying(boards, spot):
    for row in permutations(range(len(boards))):
        if not hides_later(boards, row, spot):
            return list(row)
    return None


def planes_for(boards, spot, row):
    return [
        sight_of(boards[i], boards[j], spot)[1] for k, i in enumerate(row) for j in row[k + 1:]
    ]


class OrderCase(unittest.TestCase):
    def check(self, boards, spot):
        told = told_twice(self, order_from, boards, spot)
        self.assertIs(type(told), tuple)
        self.assertIs(type(told[1]), list)
        self.assertIs(type(told[2]), list)
        self.assertEqual(len(told), 3)
        if told[0] == "order":
            self.check_order(boards, spot, told[1], told[2])
        else:
            self.check_ring(boards, spot, told[1], told[2])
        self.assertIs(told_twice(self, order_judged, boards, spot, told), True)
        return told

    def check_order(self, boards, spot, row, planes):
        self.assertEqual(sorted(row), list(range(len(boards))))
        places = [(i, j) for k, i in enumerate(row) for j in row[k + 1:]]
        self.assertEqual(len(planes), len(places))
        for plane, (i, j) in zip(planes, places):
            self.assertTrue(is_parting(plane, boards[i], boards[j], spot))

    def check_ring(self, boards, spot, row, sights):
        self.assertGreaterEqual(len(row), 2)
        self.assertEqual(len(set(row)), len(row))
        self.assertEqual(len(sights), len(row))
        for k, i in enumerate(row):
            j = row[(k + 1) % len(row)]
            near, far = sights[k]
            self.assertIs(type(sights[k]), tuple)
            self.assertTrue(sight_judged(boards[i], boards[j], spot, ("hides", near, far)))
            self.assertTrue(strictly_between(near, spot, far))

    def row_of(self, boards, spot):
        word, row, planes = self.check(boards, spot)
        self.assertEqual(word, "order")
        return row

    def ring_of(self, boards, spot):
        word, row, sights = self.check(boards, spot)
        self.assertEqual(word, "ring")
        return row


class PairsTest(unittest.TestCase):
    def test_no_boards_and_one(self):
        self.assertEqual(hiding_pairs([], EYE), [])
        self.assertEqual(hiding_pairs(stack([5]), EYE), [])

    def test_sorted(self):
        boards = stack([5, 9, 7])
        self.assertEqual(told_twice(self, hiding_pairs, boards, EYE), [(0, 1), (0, 2), (2, 1)])
        self.assertEqual(hiding_pairs(boards, (0, 0, 20, 1)), [(1, 0), (1, 2), (2, 0)])
        self.assertIs(type(hiding_pairs(boards, EYE)[0]), tuple)

    def test_both_ways_and_none(self):
        self.assertEqual(hiding_pairs(CROSS, EYE), [(0, 1), (1, 0)])
        self.assertEqual(hiding_pairs([CROSS[0], CROSS[0]], EYE), [])
        self.assertEqual(hiding_pairs([sheet(0, 2, 0, 2, 5), sheet(1, 3, 1, 3, 5)], EYE), [])

    def test_rings(self):
        self.assertEqual(hiding_pairs(THREE_RING, HIGH_UP), [(0, 1), (1, 2), (2, 0)])
        self.assertEqual(hiding_pairs(FOUR_RING, HIGH_UP), [(0, 1), (1, 2), (2, 3), (3, 0)])

    def test_each_pair_by_itself(self):
        draw = random.Random(11)
        for _ in range(60):
            boards, spot = drawn_scene(draw, draw.randint(2, 6))
            many = range(len(boards))
            wanted = [(i, j) for i in many for j in many if i != j and does_hide(boards[i], boards[j], spot)]
            self.assertEqual(told_twice(self, hiding_pairs, boards, spot), wanted)


class OrderTest(OrderCase):
    def test_no_boards_and_one(self):
        self.assertEqual(order_from([], EYE), ("order", [], []))
        self.assertEqual(order_from(stack([5]), EYE), ("order", [0], []))
        self.assertIs(order_judged([], EYE, ("order", [], [])), True)

    def test_farther_ones_first(self):
        boards = stack([5, 9, 7])
        self.assertEqual(self.row_of(boards, EYE), [1, 2, 0])
        self.assertEqual(self.row_of(boards, (0, 0, 20, 1)), [0, 2, 1])
        self.assertEqual(self.row_of(boards, (0, 0, 6, 1)), [0, 1, 2])
        self.assertEqual(self.row_of(boards, (0, 0, 8, 1)), [0, 1, 2])

    def test_the_least_of_all(self):
        apart = [sheet(9 * k, 9 * k + 1, 0, 1, 5) for k in range(5)]
        self.assertEqual(self.row_of(apart, EYE), [0, 1, 2, 3, 4])
        near_left, near_right = sheet(-6, -1, 0, 1, 5), sheet(1, 6, 0, 1, 5)
        far_left, far_right = sheet(-6, -1, 0, 1, 9), sheet(1, 6, 0, 1, 9)
        self.assertEqual(self.row_of([near_left, near_right, far_right, far_left], EYE), [2, 1, 3, 0])
        self.assertEqual(self.row_of([near_left, near_right, far_left, far_right], EYE), [2, 0, 3, 1])
        self.assertEqual(self.row_of([far_right, near_left, far_left, near_right], EYE), [0, 2, 1, 3])

    def test_the_least_by_trying(self):
        draw = random.Random(12)
        rows = rings = 0
        for _ in range(150):
            boards, spot = drawn_scene(draw, draw.randint(2, 5))
            told = self.check(boards, spot)
            wanted = least_by_trying(boards, spot)
            if wanted is None:
                self.assertEqual(told[0], "ring")
                rings += 1
            else:
                self.assertEqual(told[:2], ("order", wanted))
                rows += wanted != list(range(len(boards)))
        self.assertGreater(rows, 15)
        self.assertGreater(rings, 15)

    def test_in_one_plane(self):
        boards = [sheet(k, k + 3, 0, 2, 5) for k in range(4)] + [sheet(0, 1, 0, 1, 5)]
        self.assertEqual(self.row_of(boards, EYE), [0, 1, 2, 3, 4])
        self.assertEqual(self.row_of([boards[0]] * 3, EYE), [0, 1, 2])

    def test_rings(self):
        self.assertEqual(sorted(self.ring_of(CROSS, EYE)), [0, 1])
        for boards in (THREE_RING, FOUR_RING):
            row = self.ring_of(boards, HIGH_UP)
            self.assertEqual(row[row.index(0):] + row[:row.index(0)], list(range(len(boards))))
            row = self.ring_of(boards, (3, 2, -200, 1))
            self.assertEqual(row[row.index(0):] + row[:row.index(0)], [0] + list(range(len(boards) - 1, 0, -1)))

    def test_a_ring_among_others(self):
        under, over = sheet(-99, 99, -99, 99, -50), sheet(-99, 99, -99, 99, 50)
        boards = [over] + THREE_RING + [under]
        self.assertEqual(sorted(self.ring_of(boards, HIGH_UP)), [1, 2, 3])
        boards = [under] + FOUR_RING + [over]
        self.assertEqual(sorted(self.ring_of(boards, HIGH_UP)), [1, 2, 3, 4])
        self.assertEqual(self.row_of([under, over] + THREE_RING[1:], HIGH_UP), [0, 3, 2, 1])

    def test_a_board_taken_out_of_a_ring(self):
        for k in range(4):
            boards = FOUR_RING[:k] + FOUR_RING[k + 1:]
            row = self.row_of(boards, HIGH_UP)
            self.assertEqual(row, least_by_trying(boards, HIGH_UP))

    def test_twenty_eight(self):
        depths = [(11 * k) % 29 + 1 for k in range(28)]
        boards = stack(depths)
        wanted = sorted(range(28), key=lambda k: -depths[k])
        self.assertEqual(self.row_of(boards, EYE), wanted)
        self.assertEqual(len(hiding_pairs(boards, EYE)), 28 * 27 // 2)
        self.assertEqual(self.row_of(boards, (0, 0, 99, 1)), wanted[::-1])
        lying = [sheet(k % 7 * 9, k % 7 * 9 + 1, k // 7, k // 7 + 1, 5) for k in range(28)]
        self.assertEqual(self.row_of(lying, EYE), list(range(28)))
        self.assertEqual(len(self.ring_of(stack(range(300, 324)) + FOUR_RING, HIGH_UP)), 4)

    def test_twenty_eight_drawn(self):
        draw = random.Random(13)
        words = []
        for reach in (3, 40, 40, 40):
            boards = []
            while len(boards) < 28:
                x, y, z = [draw.randint(-reach, reach) for _ in range(3)]
                board = drawn_board(draw, 2, 1)
                boards.append(tuple(made_spot(a + x * d, b + y * d, c + z * d, d) for a, b, c, d in board))
            words.append(self.check([made_board(list(b)) for b in boards], (1, 2, 1000, 7))[0])
        self.assertEqual(set(words), {"order", "ring"})

    def test_many_figures(self):
        near, far = sheet(-MANY, MANY, -MANY, MANY, MANY), sheet(-MANY, MANY, -MANY, MANY, MANY + 1)
        self.assertEqual(self.row_of([near, far], (0, 0, 0, 1)), [1, 0])
        self.assertEqual(self.row_of([near, far], made_spot(0, 0, 2 * MANY + 1, 2)), [0, 1])
        draw = random.Random(14)
        for figures in (100, 400):
            reach = 10 ** figures - 1
            boards = [made_board([drawn_spot(draw, reach, reach) for _ in range(3)]) for _ in range(4)]
            told = self.check(boards, drawn_spot(draw, reach, reach))
            self.assertIn(told[0], ("order", "ring"))

    def test_not_free(self):
        boards = stack([5, 0, 7, 0])
        for deed, more in (
            (hiding_pairs, ()), (order_from, ()), (order_judged, (("order", [], []),)),
            (order_judged, (("ring", [0], []),)),
        ):
            refusal = refusal_of(deed, boards, EYE, *more)
            self.assertIsInstance(refusal, NotFree)
            self.assertEqual(refusal.board, 1)
            self.assertEqual(refusal_of(deed, boards, (50, 50, 7, 1), *more).board, 2)
            self.assertEqual(refusal_of(deed, stack([5] * 27 + [0]), EYE, *more).board, 27)


class JudgedOrderTest(unittest.TestCase):
    def setUp(self):
        self.boards = stack([5, 9, 7])
        self.boards.append(sheet(20, 21, 0, 1, 6))
        self.row = order_from(self.boards, EYE)[1]
        self.planes = order_from(self.boards, EYE)[2]

    def judged(self, row, planes):
        return told_twice(self, order_judged, self.boards, EYE, ("order", row, planes))

    def test_right_ones(self):
        self.assertEqual(self.row, [1, 2, 0, 3])
        self.assertIs(self.judged(self.row, self.planes), True)
        right = 0
        for row in permutations(range(4)):
            if not hides_later(self.boards, row, EYE):
                self.assertIs(self.judged(list(row), planes_for(self.boards, EYE, row)), True)
                right += 1
        self.assertEqual(right, 4)

    def test_planes_of_other_hands(self):
        right = [(0, 0, 1, 8), (0, 0, 1, 6), (0, 0, 1, 8), (0, 0, 1, 6), (0, 0, 1, 6), (-6, 0, 5, 0)]
        self.assertIs(self.judged([1, 2, 0, 3], right), True)
        for k in range(6):
            self.assertIs(self.judged([1, 2, 0, 3], right[:k] + [turned_about(right[k])] + right[k + 1:]), False)

    def test_wrong_rows(self):
        for row in (
            [], [1, 2, 0], [2, 0, 3], [1, 2, 0, 0], [1, 2, 0, 3, 3], [1, 2, 0, 4], [1, 2, 0, -1], [1, -2, 0, 3],
            [1, 2, 0, 3, 4], [0, 1, 2, 3], [2, 1, 0, 3], [1, 0, 2, 3], [1, 2, 3, 10 ** 30],
        ):
            self.assertIs(self.judged(row, self.planes), False, row)
            count = len(row) * (len(row) - 1) // 2
            self.assertIs(self.judged(row, [(0, 0, 1, 7)] * count), False, row)

    def test_a_row_short_with_its_planes(self):
        short = [1, 2, 0]
        self.assertIs(self.judged(short, planes_for(self.boards, EYE, short)), False)
        self.assertIs(self.judged([], []), False)
        self.assertIs(order_judged([], EYE, ("order", [0], [])), False)

    def test_planes_too_few_too_many_and_exchanged(self):
        self.assertIs(self.judged(self.row, self.planes[:-1]), False)
        self.assertIs(self.judged(self.row, self.planes[1:]), False)
        self.assertIs(self.judged(self.row, []), False)
        self.assertIs(self.judged(self.row, self.planes + self.planes[-1:]), False)
        self.assertIs(self.judged(self.row, self.planes[::-1]), False)

    def test_each_plane_counts(self):
        for k in range(len(self.planes)):
            for wrong in (turned_about(self.planes[k]), (1, 0, 0, 0), (0, 0, 1, 100)):
                planes = self.planes[:k] + [wrong] + self.planes[k + 1:]
                self.assertIs(self.judged(self.row, planes), False)

    def test_no_order_where_there_is_a_ring(self):
        for row in permutations(range(3)):
            for plane in ((0, 0, 1, 0), (0, 0, 1, 8), (0, 0, -1, -4), (1, 0, 0, 0)):
                self.assertIs(order_judged(THREE_RING, HIGH_UP, ("order", list(row), [plane] * 3)), False)


class JudgedRingTest(unittest.TestCase):
    def setUp(self):
        self.boards = THREE_RING + [sheet(-99, 99, -99, 99, -50)]
        self.row = [0, 1, 2]
        self.sights = [self.sight(i, j) for i, j in ((0, 1), (1, 2), (2, 0))]

    def sight(self, i, j):
        return sight_of(self.boards[i], self.boards[j], HIGH_UP)[1:]

    def judged(self, row, sights):
        return told_twice(self, order_judged, self.boards, HIGH_UP, ("ring", row, sights))

    def test_right_ones(self):
        self.assertIs(self.judged(self.row, self.sights), True)
        self.assertIs(self.judged([1, 2, 0], self.sights[1:] + self.sights[:1]), True)
        far = shared_spot(self.sights[0][1], middle(self.boards[1]), (1, 1000))
        near = met_at(plane_of(self.boards[0]), HIGH_UP, far)
        self.assertNotEqual(near, self.sights[0][0])
        self.assertIs(self.judged(self.row, [(near, far)] + self.sights[1:]), True)
        both = order_from(CROSS, EYE)
        self.assertIs(order_judged(CROSS, EYE, both), True)

    def test_any_ring_of_several(self):
        crossing = [
            made_board([(-2, -2, -2, 1), (-2, 2, -2, 1), (2, 2, 2, 1), (2, -2, 2, 1)]),
            made_board([(-2, -2, 2, 1), (-2, 2, 2, 1), (2, 2, -2, 1), (2, -2, -2, 1)]),
        ]
        boards = crossing + FOUR_RING
        for ring in ([0, 1], [1, 0], [2, 3, 4, 5], [4, 5, 2, 3]):
            pairs = zip(ring, ring[1:] + ring[:1])
            sights = [sight_of(boards[i], boards[j], HIGH_UP)[1:] for i, j in pairs]
            self.assertIs(order_judged(boards, HIGH_UP, ("ring", ring, sights)), True)

    def test_wrong_rows(self):
        for row in ([], [0], [0, 1], [0, 1, 1], [0, 1, 0], [0, 1, 2, 0], [1, 0, 2], [2, 1, 0], [0, 1, 3], [0, 1, 4],
                    [0, 1, -2], [-4, 1, 2], [0, -3, 2], [0, 1, 10 ** 30], [0, 1, 2, 3]):
            self.assertIs(self.judged(row, self.sights), False, row)
            self.assertIs(self.judged(row, (self.sights * 2)[:len(row)]), False, row)

    def test_numbers_from_behind(self):
        for row in ([0, 1, -1], [-3, 1, 2], [0, -2, 2], [-3, -2, -1]):
            self.assertIs(order_judged(THREE_RING, HIGH_UP, ("ring", row, self.sights)), False)
        self.assertIs(order_judged(THREE_RING, HIGH_UP, ("ring", [0, 1, 2], self.sights)), True)

    def test_a_ring_told_round_twice(self):
        self.assertIs(self.judged(self.row * 2, self.sights * 2), False)

    def test_a_ring_of_one(self):
        self.assertIs(self.judged([0], [self.sights[0]]), False)
        self.assertIs(self.judged([0], []), False)
        self.assertIs(self.judged([3], [((0, 0, 0, 1), (0, 0, -50, 1))]), False)
        self.assertIs(self.judged([], []), False)

    def test_not_closed(self):
        sights = [self.sight(0, 1), self.sight(1, 2), self.sight(2, 3)]
        self.assertIs(self.judged([0, 1, 2, 3], sights + [self.sights[0]]), False)
        self.assertIs(self.judged([0, 3], [self.sight(0, 3), self.sight(0, 3)]), False)

    def test_sights_too_few_too_many_and_exchanged(self):
        self.assertIs(self.judged(self.row, self.sights[:2]), False)
        self.assertIs(self.judged(self.row, []), False)
        self.assertIs(self.judged(self.row, self.sights + self.sights[:1]), False)
        self.assertIs(self.judged(self.row, self.sights[1:] + self.sights[:1]), False)

    def test_each_sight_counts(self):
        for k in range(3):
            near, far = self.sights[k]
            for wrong in ((far, near), (near, near), (HIGH_UP, far), (near, self.sights[k - 1][1])):
                sights = self.sights[:k] + [wrong] + self.sights[k + 1:]
                self.assertIs(self.judged(self.row, sights), False)

    def test_on_the_rim(self):
        boards = [sheet(-2, 2, -2, 2, 5), flat_board([(-4, -4), (4, -4), (4, 4)], 10)]
        for near, far in (((2, 0, 5, 1), (4, 0, 10, 1)), ((1, 1, 5, 1), (2, 2, 10, 1))):
            self.assertIs(order_judged(boards, EYE, ("ring", [0, 1], [(near, far)] * 2)), False)


if __name__ == "__main__":
    unittest.main()
