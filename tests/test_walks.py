import random
import unittest
from fractions import Fraction

from boardsight.boards import made_board
from boardsight.errors import NotFree
from boardsight.orders import hiding_pairs, order_from
from boardsight.sights import is_free
from boardsight.spots import made_spot
from boardsight.walks import changes_of, walk_of
from boardsight.ways import spot_at, stretch_of
from helper import (
    CROSS, FLOOR, FOUR_RING, HIGH_UP, MANY, THREE_RING, WALL, as_fraction, drawn_board, drawn_way, number_of,
    refusal_of, sheet, told_twice,
)

PANE, BACK = sheet(-1, 1, -1, 1, 2), sheet(-1, 1, -1, 1, 4)
WAY = ((-10, 0, 0, 1), (10, 0, 0, 1))
THROUGH = ((0, 0, -1, 1), (0, 0, 9, 1))


def changes_by_stretches(boards, way):
    moments = set()
    for i, one in enumerate(boards):
        for j, other in enumerate(boards):
            told = stretch_of(one, other, way)
            if i != j and told[0] == "stretch":
                moments.update(number_of(at) for at in told[1:3])
    return sorted(moments - {0, 1})


def upright_at(top, bottom):
    """A triangle far off, in the plane where x is top by bottom."""
    return made_board([made_spot(top, y * bottom, z * bottom, bottom) for y, z in ((900, 0), (901, 0), (900, 1))])


class WalkTest(unittest.TestCase):
    def walk(self, boards, way):
        """What is told, each part checked at several of its inner moments; the changes are told beside it."""
        changes = told_twice(self, changes_of, boards, way)
        self.assertIs(type(changes), list)
        self.assertEqual(changes, [as_fraction(at) for at in changes_by_stretches(boards, way)])
        told = told_twice(self, walk_of, boards, way)
        self.assertIs(type(told), list)
        ends = [(0, 1)] + changes + [(1, 1)]
        self.assertEqual([part[:2] for part in told], list(zip(ends, ends[1:])))
        for part in told:
            self.assertIs(type(part), tuple)
            self.assertEqual(len(part), 3)
            self.check_part(boards, way, part)
        return [number_of(at) for at in changes], [found for low, high, found in told]

    def check_part(self, boards, way, part):
        low, high = number_of(part[0]), number_of(part[1])
        kind, row = part[2]
        self.assertIs(type(part[2]), tuple)
        self.assertIs(type(row), list)
        pairs = []
        for share in (Fraction(1, 10 ** 9), Fraction(1, 3), Fraction(1, 2), Fraction(7, 9), 1 - Fraction(1, 10 ** 9)):
            spot = spot_at(way, as_fraction(low + share * (high - low)))
            if not is_free(boards, spot):
                continue
            pairs.append(hiding_pairs(boards, spot))
            found = order_from(boards, spot)
            self.assertEqual(found[0], kind)
            if kind == "order":
                self.assertEqual(found[1], row)
            else:
                self.assertGreater(len(row), 1)
                for k in range(len(row)):
                    self.assertIn((row[k], row[(k + 1) % len(row)]), pairs[-1])
        self.assertGreater(len(pairs), 0)
        self.assertEqual(pairs, pairs[:1] * len(pairs))

    def test_no_boards_and_one(self):
        self.assertEqual(self.walk([], WAY), ([], [("order", [])]))
        self.assertEqual(walk_of([], WAY), [((0, 1), (1, 1), ("order", []))])
        self.assertEqual(self.walk([PANE], THROUGH), ([], [("order", [0])]))
        self.assertEqual(walk_of([PANE], THROUGH), [((0, 1), (1, 1), ("order", [0]))])

    def test_past_two(self):
        wanted = [Fraction(7, 20), Fraction(13, 20)]
        rows = [("order", [0, 1]), ("order", [1, 0]), ("order", [0, 1])]
        self.assertEqual(self.walk([PANE, BACK], WAY), (wanted, rows))
        self.assertEqual(self.walk([BACK, PANE], WAY), (wanted, [("order", [0, 1])] * 3))

    def test_through_two(self):
        wanted = [Fraction(3, 10), Fraction(5, 10)]
        rows = [("order", [1, 0]), ("order", [0, 1]), ("order", [0, 1])]
        self.assertEqual(self.walk([PANE, BACK], THROUGH), (wanted, rows))

    def test_nought_and_one_are_no_changes(self):
        self.assertEqual(self.walk([PANE, BACK], ((-3, 0, 0, 1), (3, 0, 0, 1))), ([], [("order", [1, 0])]))
        self.assertEqual(self.walk([PANE, BACK], ((-1, 0, 0, 1), (1, 0, 0, 1))), ([], [("order", [1, 0])]))
        self.assertEqual(self.walk([PANE, BACK], ((3, 0, 0, 1), (9, 0, 0, 1))), ([], [("order", [0, 1])]))

    def test_each_change_once(self):
        """Several pairs begin and end to hide at the same moments."""
        wanted = [Fraction(7, 20), Fraction(13, 20)]
        self.assertEqual(self.walk([PANE, BACK, PANE, BACK], WAY)[0], wanted)
        higher = [sheet(-1, 1, 0, 2, 2), sheet(-1, 1, 0, 2, 4)]
        self.assertEqual(self.walk([PANE, BACK] + higher, WAY)[0], wanted)

    def test_inner_moments_that_are_not_free(self):
        """The middle of the way lies in a board's plane, the other moments that are tried first in others'."""
        way = ((-3, 0, -1, 1), (-3, 0, 1, 1))
        right = sheet(2, 4, -1, 1, 0)
        self.assertFalse(is_free([right], spot_at(way, (1, 2))))
        self.assertEqual(self.walk([WALL, right], way), ([], [("order", [1, 0])]))
        way = ((0, 0, 0, 1), (1, 0, 0, 1))
        moments = [(1, 2), (1, 3), (1, 4), (1, 5)]
        boards = [upright_at(top, bottom) for top, bottom in moments]
        for t in moments:
            self.assertFalse(is_free(boards, spot_at(way, t)))
        self.walk(boards, way)
        self.walk(boards[::-1], way)

    def test_crossing_ones(self):
        self.assertEqual(self.walk(CROSS, ((0, 0, 0, 1), (0, 0, 30, 1)))[0], [])
        found = walk_of(CROSS, ((0, 0, 0, 1), (0, 0, 30, 1)))[0][2]
        self.assertEqual((found[0], sorted(found[1])), ("ring", [0, 1]))

    def test_a_ring_in_some_part(self):
        for boards in (THREE_RING, FOUR_RING):
            changes, found = self.walk(boards, (HIGH_UP, (900, 700, 2, 1)))
            kinds = [kind for kind, row in found]
            self.assertEqual(kinds[0], "ring")
            self.assertEqual(kinds[-1], "order")
            self.assertEqual(sorted(found[0][1]), list(range(len(boards))))

    def test_drawn_ones(self):
        draw = random.Random(21)
        most = 0
        for _ in range(80):
            reach = draw.choice([1, 2, 3, 6])
            boards = [drawn_board(draw, reach) for _ in range(draw.randint(2, 4))]
            changes, found = self.walk(boards, drawn_way(draw, boards))
            most = max(most, len(changes))
        self.assertGreater(most, 4)

    def test_drawn_ones_in_a_few_planes(self):
        draw = random.Random(22)
        boards = [FLOOR, WALL, sheet(-4, 0, -4, 4, 0), sheet(-1, 5, -1, 1, 2), PANE, BACK]
        for _ in range(60):
            some = [draw.choice(boards) for _ in range(4)]
            self.walk(some, drawn_way(draw, some, 6))

    def test_many_figures(self):
        changes, found = self.walk([PANE, BACK], ((-MANY, 0, 0, 1), (MANY, 0, 0, 1)))
        self.assertEqual(changes, [Fraction(MANY - 3, 2 * MANY), Fraction(MANY + 3, 2 * MANY)])

    def test_not_free(self):
        free, on_level, on_upright = (5, 0, 5, 1), (5, 0, 0, 1), (0, 0, 5, 1)
        boards = [PANE, FLOOR, WALL, FLOOR]
        for way, number in (
            ((on_level, free), 1), ((free, on_level), 1), ((on_upright, free), 2), ((free, on_upright), 2),
            ((on_upright, on_level), 2), ((on_level, on_upright), 1), ((free, (9, 9, 2, 1)), 0),
        ):
            for deed in (changes_of, walk_of):
                refusal = refusal_of(deed, boards, way)
                self.assertIsInstance(refusal, NotFree)
                self.assertEqual(refusal.board, number)


if __name__ == "__main__":
    unittest.main()
