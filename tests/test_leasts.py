import random
import unittest

from boardsight.boards import made_board, plane_of
from boardsight.errors import TooMany
from boardsight.leasts import least_tree, table_judged
from boardsight.treejudge import tree_judged
from boardsight.trees import pieces_of, tree_of
from helper import (
    FLOOR, FOUR_RING, HIGH_WALL, LEFT_FLOOR, LOW_WALL, MANY, RIGHT_FLOOR, THREE_RING, WALL, drawn_board, drawn_spot,
    parts_of, refused_with, sheet, told_twice,
)


def fewest_by_trying(pieces):
    """The fewest pieces, by all trees whose planes are those of pieces at their nodes."""
    sums = []
    for plane in {plane_of(board) for number, board in pieces}:
        stay = [piece for piece in pieces if plane_of(piece[1]) == plane]
        sums.append(len(stay) + sum(fewest_by_trying(parts_of(pieces, plane, side)) for side in (0, 1)))
    return min(sums, default=0)


def nodes_of(tree):
    return [] if tree is None else [tree] + nodes_of(tree[2]) + nodes_of(tree[3])


def drawn_some(draw, many):
    boards = [drawn_board(draw, draw.choice([1, 2, 6])) for _ in range(many)]
    if many > 2 and draw.random() < 0.2:
        boards[-1] = boards[0]
    return list(zip(draw.sample(range(-9, 20), many), boards))


class LeastTreeTest(unittest.TestCase):
    def check(self, some):
        told = told_twice(self, least_tree, some)
        self.assertIs(type(told), tuple)
        tree, table = told
        self.assertTrue(tree_judged(some, tree))
        for plane, here, below, above in nodes_of(tree):
            self.assertTrue(here)
            self.assertEqual(plane, plane_of(here[0][1]))
        self.assertIs(type(table), list)
        self.assertIs(told_twice(self, table_judged, some, table), True)
        many = len(pieces_of(tree))
        if some:
            self.assertEqual(dict(table)[tuple(sorted(some))], many)
        self.assertEqual(many, fewest_by_trying(some))
        return many, table

    def test_no_boards(self):
        self.assertEqual(least_tree([]), (None, []))
        self.check([])

    def test_one_board(self):
        self.assertEqual(least_tree([(7, WALL)]), (((1, 0, 0, 0), ((7, WALL),), None, None), [(((7, WALL),), 1)]))

    def test_two_that_cross(self):
        many, table = self.check([(1, WALL), (0, FLOOR)])
        self.assertEqual(sorted(table), sorted([
            (((0, FLOOR), (1, WALL)), 3), (((1, LOW_WALL),), 1), (((1, HIGH_WALL),), 1), (((0, LEFT_FLOOR),), 1),
            (((0, RIGHT_FLOOR),), 1),
        ]))

    def test_the_better_plane_first(self):
        for some in ([(0, LEFT_FLOOR), (1, WALL)], [(0, WALL), (1, LEFT_FLOOR)], [(0, WALL), (-1, LEFT_FLOOR)]):
            many, table = self.check(some)
            self.assertEqual(many, 2)
            self.assertEqual(len(table), 4)
        lone = sheet(-1, 1, -1, 1, 2)
        many, table = self.check([(0, WALL), (1, FLOOR), (2, lone)])
        self.assertEqual(many, 5)
        many, table = self.check([(0, FLOOR), (1, HIGH_WALL), (2, lone)])
        self.assertEqual(many, 4)

    def test_in_one_plane(self):
        some = [(3, FLOOR), (1, LEFT_FLOOR), (2, FLOOR), (0, sheet(9, 10, 9, 10, 0))]
        many, table = self.check(some)
        self.assertEqual((many, table), (4, [(tuple(sorted(some)), 4)]))

    def test_rings(self):
        for boards, wanted in ((THREE_RING, 4), (FOUR_RING, 5)):
            many, table = self.check(list(enumerate(boards)))
            self.assertGreaterEqual(many, wanted)
            self.check([(9 - k, board) for k, board in enumerate(boards)])

    def test_drawn_ones(self):
        draw = random.Random(51)
        better = 0
        for _ in range(80):
            some = drawn_some(draw, draw.randint(1, 4))
            many, table = self.check(some)
            better += many < len(pieces_of(tree_of(some)))
        self.assertGreater(better, 8)

    def test_too_many(self):
        five = [(k, sheet(0, 1, 0, 1, k)) for k in range(5)]
        self.assertTrue(refused_with(TooMany, least_tree, five))
        self.assertTrue(refused_with(TooMany, least_tree, five + [(9, FLOOR)]))
        self.assertTrue(refused_with(TooMany, table_judged, five, []))
        self.assertTrue(refused_with(TooMany, table_judged, five, [((), 0)]))
        self.assertFalse(refused_with(TooMany, least_tree, five[:4]))
        self.assertFalse(refused_with(TooMany, table_judged, five[:4], []))

    def test_many_figures(self):
        slant = made_board([(-MANY, 0, -1, 1), (MANY, 0, 1, 1), (MANY, MANY, 1, 1), (-MANY, MANY, -1, 1)])
        self.assertEqual(self.check([(0, sheet(-MANY, MANY, -MANY, MANY, 0)), (1, slant)])[0], 3)
        draw = random.Random(52)
        reach = 10 ** 400 - 1
        self.check([(k, made_board([drawn_spot(draw, reach, reach) for _ in range(3)])) for k in range(3)])


class TableTest(unittest.TestCase):
    def setUp(self):
        self.some = [(4, WALL), (0, FLOOR), (2, sheet(-1, 1, -1, 1, 2)), (-1, LEFT_FLOOR)]
        self.table = least_tree(self.some)[1]

    def judged(self, table, some=None):
        return told_twice(self, table_judged, self.some if some is None else some, table)

    def with_row(self, k, row):
        return self.table[:k] + [row] + self.table[k + 1:]

    def test_of_other_hands(self):
        self.assertIs(self.judged(self.table), True)
        self.assertIs(self.judged(self.table[::-1]), True)
        self.assertIs(self.judged(sorted(self.table)), True)
        self.assertIs(self.judged(self.table, self.some[::-1]), True)

    def test_of_no_boards(self):
        self.assertIs(self.judged([], []), True)
        self.assertIs(self.judged([(((3, WALL),), 1)], []), True)
        self.assertIs(self.judged([(((3, WALL),), 2)], []), False)
        self.assertIs(self.judged([((), 0)], []), False)

    def test_with_more_rows(self):
        more = [row for row in least_tree([(7, FLOOR), (8, WALL)])[1] if row not in self.table]
        self.assertIs(self.judged(self.table + more), True)
        self.assertIs(self.judged(self.table + more[1:]), False)
        self.assertIs(self.judged(self.table + [(more[0][0], more[0][1] + 1)] + more[1:]), False)
        several = ((1, LEFT_FLOOR), (1, RIGHT_FLOOR))
        self.assertIs(self.judged(self.table + [(several, 2)]), True)
        self.assertIs(self.judged(self.table + [(several, 1)]), False)

    def test_a_row_too_few(self):
        self.assertGreater(len(self.table), 10)
        for k in range(len(self.table)):
            self.assertIs(self.judged(self.table[:k] + self.table[k + 1:]), False)
        self.assertIs(self.judged([]), False)

    def test_the_boards_own_row(self):
        for other in (self.some[1:], self.some[:1], [(4, FLOOR)] + self.some[1:], [(5, WALL)] + self.some[1:]):
            self.assertIs(self.judged(least_tree(other)[1]), False)
        self.assertIs(self.judged(self.table, [(5, WALL)] + self.some[1:]), False)
        self.assertIs(self.judged(self.table, [(4, RIGHT_FLOOR)] + self.some[1:]), False)

    def test_the_same_pieces_in_two_rows(self):
        for row in self.table:
            self.assertIs(self.judged(self.table + [row]), False)
            self.assertIs(self.judged(self.table + [(row[0], row[1] + 1)]), False)
            self.assertIs(self.judged([(row[0], row[1] + 1)] + self.table), False)

    def test_pieces_not_sorted(self):
        tried = 0
        for k, (pieces, many) in enumerate(self.table):
            if len(pieces) > 1:
                self.assertIs(self.judged(self.with_row(k, (pieces[::-1], many))), False)
                self.assertIs(self.judged(self.table + [(pieces[::-1], many)]), False)
                tried += 1
        self.assertGreater(tried, 3)
        same = ((1, RIGHT_FLOOR), (1, LEFT_FLOOR))
        self.assertIs(self.judged(self.table + [(same, 2)]), False)

    def test_a_many_too_great_or_too_small(self):
        for k, (pieces, many) in enumerate(self.table):
            for wrong in (many + 1, many - 1, 0, -many, 10 ** 40):
                self.assertIs(self.judged(self.with_row(k, (pieces, wrong))), False)

    def test_all_many_wrong_alike(self):
        for less in (-1, 1):
            self.assertIs(self.judged([(pieces, many - less) for pieces, many in self.table]), False)
        self.assertIs(self.judged([(pieces, 2 * many) for pieces, many in self.table]), False)

    def test_the_least_not_any(self):
        some = [(0, LEFT_FLOOR), (1, WALL)]
        table = dict(least_tree(some)[1])
        self.assertEqual(table[tuple(some)], 2)
        table[tuple(some)] = 3
        self.assertIs(self.judged(list(table.items()), some), False)

    def test_another_number_or_part(self):
        for k, (pieces, many) in enumerate(self.table):
            number, board = pieces[-1]
            self.assertIs(self.judged(self.with_row(k, (pieces[:-1] + ((number + 1, board),), many))), False)
            other = sheet(90, 91, 90, 91, 0)
            self.assertIs(self.judged(self.with_row(k, (pieces[:-1] + ((number, other),), many))), False)

    def test_a_row_of_none(self):
        self.assertIs(self.judged(self.table + [((), 0)]), False)
        self.assertIs(self.judged([((), 5)] + self.table), False)

    def test_drawn_ones_spoiled(self):
        draw = random.Random(53)
        for _ in range(30):
            some = drawn_some(draw, draw.randint(1, 4))
            table = least_tree(some)[1]
            draw.shuffle(table)
            self.assertIs(self.judged(table, some), True)
            pieces, many = table[-1]
            self.assertIs(self.judged(table[:-1], some), False)
            self.assertIs(self.judged(table[:-1] + [(pieces, many + draw.choice([-1, 1]))], some), False)


if __name__ == "__main__":
    unittest.main()
