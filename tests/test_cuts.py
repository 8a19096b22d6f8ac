import itertools
import random
import unittest

from boardsight.boards import made_board, plane_of, size_of, where_in
from boardsight.cuts import common_part, cut_by, does_fill, kept_by
from boardsight.planes import made_plane, plane_through, side_of, turned_about
from boardsight.ratios import plus
from boardsight.spots import in_line
from helper import MANY, MANY_TOO, drawn_board, drawn_spot, flat_board

SQUARE = flat_board([(0, 0), (4, 0), (4, 4), (0, 4)])
LEFT = flat_board([(0, 0), (2, 0), (2, 4), (0, 4)])
RIGHT = flat_board([(2, 0), (4, 0), (4, 4), (2, 4)])
LOWER = flat_board([(0, 0), (4, 0), (4, 2), (0, 2)])
OCTAGON = flat_board([(10, 0), (20, 0), (30, 10), (30, 20), (20, 30), (10, 30), (0, 20), (0, 10)])
# Each takes one corner off the octagon, so that one corner more is left.
BEVELS = [(-1, 2, 0, -19), (-2, -1, 0, -79)]


def drawn_plane(draw):
    while True:
        numbers = [draw.randint(-3, 3) for _ in range(4)]
        if numbers[:3] != [0, 0, 0]:
            return made_plane(*numbers)


def cut_up(board, planes):
    parts = [board]
    for plane in planes:
        halves = [half for part in parts for half in cut_by(part, plane)]
        parts = [half for half in halves if half is not None]
    return parts


def size_or_nought(part):
    return (0, 1) if part is None else size_of(part)


class CutTest(unittest.TestCase):
    def test_plain_cut(self):
        self.assertEqual(cut_by(SQUARE, (1, 0, 0, 2)), (LEFT, RIGHT))
        self.assertEqual(cut_by(SQUARE, (-1, 0, 0, -2)), (RIGHT, LEFT))
        below, above = cut_by(SQUARE, (1, 1, 1, 6))
        self.assertEqual(above, flat_board([(4, 2), (4, 4), (2, 4)]))
        self.assertEqual(len(below), 5)
        self.assertIs(type(cut_by(SQUARE, (1, 0, 0, 2))), tuple)

    def test_cut_through_corners(self):
        halves = (flat_board([(0, 0), (0, 4), (4, 0)]), flat_board([(4, 4), (0, 4), (4, 0)]))
        self.assertEqual(cut_by(SQUARE, (1, 1, 0, 4)), halves)
        below, above = cut_by(SQUARE, (2, 1, 0, 4))
        self.assertEqual(below, flat_board([(0, 0), (0, 4), (2, 0)]))
        self.assertEqual(above, flat_board([(0, 4), (2, 0), (4, 0), (4, 4)]))

    def test_spots_between_whole_numbers(self):
        below, above = cut_by(SQUARE, (3, 0, 0, 7))
        self.assertEqual(below, made_board([(0, 0, 0, 1), (7, 0, 0, 3), (7, 12, 0, 3), (0, 4, 0, 1)]))
        self.assertEqual(above, made_board([(4, 0, 0, 1), (7, 0, 0, 3), (7, 12, 0, 3), (4, 4, 0, 1)]))

    def test_its_own_plane(self):
        for plane in ((0, 0, 1, 0), (0, 0, -1, 0)):
            self.assertEqual(cut_by(SQUARE, plane), (None, None))

    def test_touching_or_missing(self):
        for plane in ((1, 0, 0, 0), (1, 1, 0, 0), (1, 0, 0, -1), (0, 0, 1, -3), (2, 1, 5, 0)):
            self.assertEqual(cut_by(SQUARE, plane), (None, SQUARE))
            self.assertEqual(cut_by(SQUARE, turned_about(plane)), (SQUARE, None))
        for plane in ((1, 0, 0, 4), (1, 1, 0, 8), (0, 1, 0, 9), (0, 0, 1, 2)):
            self.assertEqual(cut_by(SQUARE, plane), (SQUARE, None))

    def check(self, board, plane):
        parts = cut_by(board, plane)
        self.assertEqual(cut_by(board, turned_about(plane)), (parts[1], parts[0]))
        if plane in (plane_of(board), turned_about(plane_of(board))):
            self.assertEqual(parts, (None, None))
            return
        self.assertEqual(plus(size_or_nought(parts[0]), size_or_nought(parts[1])), size_of(board))
        for part, side in zip(parts, (-1, 1)):
            if part is not None:
                self.assertEqual(plane_of(part), plane_of(board))
                self.assertEqual(made_board(list(part)), part)
                self.assertTrue(all(side * side_of(plane, corner) >= 0 for corner in part))
                self.assertTrue(all(where_in(board, corner) != "off" for corner in part))

    def test_drawn_ones(self):
        draw = random.Random(1)
        for _ in range(400):
            self.check(drawn_board(draw), drawn_plane(draw))

    def test_planes_through_corners(self):
        draw = random.Random(2)
        for _ in range(200):
            board, spot = drawn_board(draw), drawn_spot(draw)
            one, other = draw.sample(board, 2)
            if not in_line(spot, one, other):
                self.check(board, plane_through(spot, one, other))

    def test_many_figures(self):
        board = made_board([(MANY, 0, 0, 1), (0, MANY_TOO, 1, 2), (0, 0, 1, MANY)])
        self.check(board, made_plane(MANY, MANY_TOO, -5, 1))
        self.check(board, made_plane(MANY - 1, -MANY_TOO, 0, 0))
        self.check(board, plane_of(board))


class KeptTest(unittest.TestCase):
    def test_of_no_planes(self):
        self.assertEqual(kept_by(SQUARE, []), SQUARE)

    def test_plain_examples(self):
        self.assertEqual(kept_by(SQUARE, [(1, 0, 0, 2)]), RIGHT)
        self.assertEqual(kept_by(SQUARE, [(-1, 0, 0, -2)]), LEFT)
        corner = flat_board([(2, 2), (4, 2), (4, 4), (2, 4)])
        self.assertEqual(kept_by(SQUARE, [(1, 0, 0, 2), (0, 1, 0, 2)]), corner)

    def test_none_without_area(self):
        self.assertIsNone(kept_by(SQUARE, [(1, 0, 0, 4)]))
        self.assertIsNone(kept_by(SQUARE, [(1, 0, 0, 5)]))
        self.assertIsNone(kept_by(SQUARE, [(1, 0, 0, 2), (-1, 0, 0, -2)]))
        self.assertIsNone(kept_by(SQUARE, [(-1, 0, 0, -1), (1, 0, 0, 3)]))

    def test_none_where_it_lies_in_one(self):
        for own in ((0, 0, 1, 0), (0, 0, -1, 0)):
            self.assertIsNone(kept_by(SQUARE, [own]))
            self.assertIsNone(kept_by(SQUARE, [own, (1, 0, 0, 2)]))
            self.assertIsNone(kept_by(SQUARE, [(1, 0, 0, 2), own]))

    def test_any_order_and_the_list_stays(self):
        draw = random.Random(3)
        found = 0
        for _ in range(80):
            board = drawn_board(draw)
            planes = [drawn_plane(draw) for _ in range(3)]
            kept = kept_by(board, planes)
            found += kept is not None
            for order in itertools.permutations(planes):
                given = list(order)
                self.assertEqual(kept_by(board, given), kept)
                self.assertEqual(given, list(order))
        self.assertGreater(found, 5)

    def test_many_figures(self):
        board = flat_board([(0, 0), (MANY, 0), (MANY, MANY), (0, MANY)])
        sliver = kept_by(board, [(1, 0, 0, MANY - 1), (-MANY, 0, 0, 1 - MANY * MANY)])
        self.assertEqual(size_of(sliver), ((MANY - 1), 1))
        self.assertIsNone(kept_by(board, [(1, 0, 0, MANY)]))


class CommonTest(unittest.TestCase):
    def test_plain_examples(self):
        self.assertEqual(common_part(LEFT, LOWER), flat_board([(0, 0), (2, 0), (2, 2), (0, 2)]))
        self.assertEqual(common_part(SQUARE, LEFT), LEFT)
        self.assertEqual(common_part(LEFT, SQUARE), LEFT)
        self.assertEqual(common_part(SQUARE, SQUARE), SQUARE)

    def test_touching_or_apart(self):
        self.assertIsNone(common_part(LEFT, RIGHT))
        self.assertIsNone(common_part(LEFT, flat_board([(2, 4), (3, 4), (3, 5)])))
        self.assertIsNone(common_part(LEFT, flat_board([(5, 0), (6, 0), (6, 4)])))
        self.assertIsNone(common_part(LEFT, flat_board([(2, 1), (3, 1), (3, 2), (2, 2)])))

    def test_more_than_eight_corners(self):
        one, other = kept_by(OCTAGON, BEVELS[:1]), kept_by(OCTAGON, BEVELS[1:])
        shared = common_part(one, other)
        self.assertEqual(len(shared), 10)
        self.assertEqual(shared, kept_by(OCTAGON, BEVELS))
        self.assertEqual(common_part(other, one), shared)
        self.assertEqual(common_part(shared, shared), shared)

    def test_drawn_pairs_of_one_plane(self):
        draw = random.Random(4)
        found = 0
        for _ in range(200):
            whole = drawn_board(draw)
            one = kept_by(whole, [drawn_plane(draw)]) or whole
            other = kept_by(whole, [drawn_plane(draw), drawn_plane(draw)]) or whole
            shared = common_part(one, other)
            self.assertEqual(common_part(other, one), shared)
            if shared is None:
                continue
            found += 1
            for corner in shared:
                self.assertNotEqual(where_in(one, corner), "off")
                self.assertNotEqual(where_in(other, corner), "off")
        self.assertGreater(found, 50)

    def test_sizes_add_up(self):
        draw = random.Random(5)
        for _ in range(60):
            whole = drawn_board(draw)
            halves = [half for half in cut_by(whole, drawn_plane(draw)) if half is not None]
            others = cut_up(whole, [drawn_plane(draw)])
            for other in others:
                total = (0, 1)
                for half in halves:
                    total = plus(total, size_or_nought(common_part(half, other)))
                if halves:
                    self.assertEqual(total, size_of(other))

    def test_many_figures(self):
        one = flat_board([(0, 0), (MANY, 0), (0, MANY)], 1, 3)
        other = flat_board([(MANY - 1, 0), (MANY, MANY), (MANY_TOO, MANY)], 1, 3)
        self.assertEqual(common_part(one, other), common_part(other, one))
        self.assertIsNone(common_part(one, flat_board([(MANY, 0), (0, MANY), (MANY, MANY)], 1, 3)))


class FillTest(unittest.TestCase):
    def test_itself_and_halves(self):
        self.assertIs(does_fill(SQUARE, [SQUARE]), True)
        self.assertIs(does_fill(SQUARE, [LEFT, RIGHT]), True)
        self.assertIs(does_fill(SQUARE, [RIGHT, LEFT]), True)

    def test_parts_by_cuts_in_any_order(self):
        draw = random.Random(6)
        for _ in range(40):
            board = drawn_board(draw)
            own = (plane_of(board), turned_about(plane_of(board)))
            planes = [plane for plane in [drawn_plane(draw) for _ in range(3)] if plane not in own]
            parts = cut_up(board, planes)
            draw.shuffle(parts)
            given = list(parts)
            self.assertIs(does_fill(board, given), True)
            self.assertEqual(given, parts)
            self.assertIs(does_fill(board, parts[1:]), False)
            self.assertIs(does_fill(board, parts + parts[:1]), False)

    def test_a_corner_against_an_edge(self):
        """The triangle's tip touches the upper half, and no line along the triangle's own edges parts them."""
        upper, tip = flat_board([(0, 2), (4, 2), (4, 4), (0, 4)]), flat_board([(0, 0), (4, 0), (2, 2)])
        sides = [flat_board([(0, 0), (2, 2), (0, 2)]), flat_board([(4, 0), (4, 2), (2, 2)])]
        self.assertIs(does_fill(SQUARE, [upper, tip] + sides), True)
        self.assertIs(does_fill(SQUARE, sides + [tip, upper]), True)
        higher = flat_board([(0, 0), (4, 0), (2, 3)])
        self.assertIs(does_fill(SQUARE, [upper, higher] + sides), False)

    def test_missing_or_told_twice(self):
        self.assertIs(does_fill(SQUARE, []), False)
        self.assertIs(does_fill(SQUARE, [LEFT]), False)
        self.assertIs(does_fill(SQUARE, [LEFT, LEFT]), False)
        self.assertIs(does_fill(SQUARE, [SQUARE, SQUARE]), False)
        self.assertIs(does_fill(SQUARE, [LEFT, RIGHT, LEFT]), False)

    def test_another_plane(self):
        raised = flat_board([(2, 0), (4, 0), (4, 4), (2, 4)], 1)
        self.assertEqual(size_of(raised), size_of(RIGHT))
        self.assertIs(does_fill(SQUARE, [LEFT, raised]), False)
        upright = made_board([(2, 0, 0, 1), (2, 4, 0, 1), (2, 4, 2, 1), (2, 0, 2, 1)])
        self.assertEqual(size_of(upright), size_of(RIGHT))
        self.assertIs(does_fill(SQUARE, [LEFT, upright]), False)

    def test_a_corner_off_the_board(self):
        beyond = flat_board([(4, 0), (6, 0), (6, 4), (4, 4)])
        self.assertIs(does_fill(SQUARE, [LEFT, beyond]), False)
        slanted = flat_board([(2, 0), (5, 0), (3, 4), (2, 4)])
        self.assertEqual(size_of(slanted), size_of(RIGHT))
        self.assertIs(does_fill(SQUARE, [LEFT, slanted]), False)

    def test_overlapping_though_the_sizes_fit(self):
        self.assertEqual(size_of(LOWER), size_of(RIGHT))
        self.assertIs(does_fill(SQUARE, [LEFT, LOWER]), False)
        self.assertIs(does_fill(SQUARE, [LOWER, RIGHT]), False)

    def test_parts_of_more_than_eight_corners(self):
        board = OCTAGON
        parts = []
        for bevel in BEVELS:
            below, board = cut_by(board, bevel)
            parts.append(below)
        parts.append(board)
        self.assertEqual(len(board), 10)
        self.assertIs(does_fill(OCTAGON, parts), True)
        self.assertIs(does_fill(board, [board]), True)
        self.assertIs(does_fill(board, list(cut_by(board, (1, 1, 0, 30)))), True)
        self.assertIs(does_fill(OCTAGON, parts[1:]), False)

    def test_many_figures(self):
        board = made_board([(MANY, 0, 0, 1), (0, MANY_TOO, 1, 2), (0, 0, 1, MANY)])
        parts = cut_up(board, [made_plane(MANY_TOO, -2 * MANY, 0, 1)])
        self.assertEqual(len(parts), 2)
        self.assertIs(does_fill(board, parts), True)
        square = flat_board([(0, 0), (MANY, 0), (MANY, MANY), (0, MANY)])
        short = flat_board([(0, 0), (MANY - 1, 0), (MANY, MANY), (0, MANY)])
        self.assertIs(does_fill(square, [short]), False)
        self.assertIs(does_fill(square, [short, flat_board([(MANY - 1, 0), (MANY, 0), (MANY, MANY)])]), True)


if __name__ == "__main__":
    unittest.main()
