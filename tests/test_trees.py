import random
import unittest
from itertools import permutations

from boardsight.boards import made_board, plane_of
from boardsight.cuts import cut_by, does_fill
from boardsight.errors import NotFree
from boardsight.planes import made_plane, side_of, turned_about
from boardsight.sights import does_hide, is_free
from boardsight.spots import made_spot
from boardsight.treejudge import tree_judged
from boardsight.trees import grown_by, painted_by, pieces_of, shrunk_by, tree_of
from helper import (
    FLOOR, FOUR_RING, HIGH_UP, HIGH_WALL, LEFT_FLOOR, LOW_WALL, MANY, RIGHT_FLOOR, THREE_RING, WALL, drawn_board,
    drawn_spot, flat_board, hides_later, parts_of, refusal_of, sheet, told_twice,
)

LEVEL = (0, 0, 1, 0)
UPRIGHT = (1, 0, 0, 0)


def tree_by_the_words(pieces):
    """The tree of some boards as the document tells it, part by part."""
    if not pieces:
        return None
    plane = plane_of(pieces[0][1])
    here = tuple(piece for piece in pieces if plane_of(piece[1]) == plane)
    away = [piece for piece in pieces if piece not in here]
    below, above = [tree_by_the_words(parts_of(away, plane, side)) for side in (0, 1)]
    return (plane, here, below, above)


def drawn_some(draw, many):
    numbers = draw.sample(range(-20, 40), many)
    boards = [drawn_board(draw, draw.choice([1, 2, 6])) for _ in range(many)]
    if many > 2 and draw.random() < 0.3:
        boards[-1] = boards[0]
    return list(zip(numbers, boards))


def empty_chain(planes):
    """A tree without pieces that goes on above each plane."""
    tree = None
    for plane in reversed(planes):
        tree = (plane, (), None, tree)
    return tree


class TreeOfTest(unittest.TestCase):
    def test_no_boards_and_one(self):
        self.assertIsNone(tree_of([]))
        self.assertIsNone(tree_of([], []))
        self.assertEqual(tree_of([(5, WALL)]), (UPRIGHT, ((5, WALL),), None, None))

    def test_two_that_cross(self):
        wanted = (LEVEL, ((0, FLOOR),), (UPRIGHT, ((1, LOW_WALL),), None, None),
                  (UPRIGHT, ((1, HIGH_WALL),), None, None))
        other = (UPRIGHT, ((1, WALL),), (LEVEL, ((0, LEFT_FLOOR),), None, None),
                 (LEVEL, ((0, RIGHT_FLOOR),), None, None))
        some = [(0, FLOOR), (1, WALL)]
        self.assertEqual(told_twice(self, tree_of, some), wanted)
        self.assertEqual(tree_of(some, None), wanted)
        self.assertEqual(tree_of(some, [0, 1]), wanted)
        self.assertEqual(told_twice(self, tree_of, some, [1, 0]), other)
        self.assertEqual(tree_of([(1, WALL), (0, FLOOR)]), other)

    def test_in_one_plane(self):
        one, two, three = sheet(0, 1, 0, 1, 7), sheet(0, 2, 0, 2, 7), sheet(5, 6, 0, 1, 7)
        wanted = ((0, 0, 1, 7), ((9, one), (-2, two), (4, three)), None, None)
        some = [(9, one), (-2, two), (4, three)]
        self.assertEqual(tree_of(some), wanted)
        self.assertEqual(tree_of(some, [4, 9, -2])[1], ((4, three), (9, one), (-2, two)))
        under, over = sheet(0, 1, 0, 1, 6), sheet(0, 1, 0, 1, 8)
        tree = tree_of([(1, one), (2, under), (3, over), (4, two), (5, sheet(3, 4, 3, 4, 6))])
        self.assertEqual(tree[1], ((1, one), (4, two)))
        self.assertEqual(tree[2], ((0, 0, 1, 6), ((2, under), (5, sheet(3, 4, 3, 4, 6))), None, None))
        self.assertEqual(tree[3], ((0, 0, 1, 8), ((3, over),), None, None))

    def test_on_one_side_alone(self):
        tree = tree_of([(0, FLOOR), (1, HIGH_WALL)])
        self.assertEqual(tree, (LEVEL, ((0, FLOOR),), None, (UPRIGHT, ((1, HIGH_WALL),), None, None)))
        tree = tree_of([(0, FLOOR), (1, LOW_WALL)])
        self.assertEqual(tree, (LEVEL, ((0, FLOOR),), (UPRIGHT, ((1, LOW_WALL),), None, None), None))

    def test_by_the_words(self):
        draw = random.Random(31)
        cut = 0
        for _ in range(100):
            some = drawn_some(draw, draw.randint(1, 6))
            tree = told_twice(self, tree_of, some)
            self.assertEqual(tree, tree_by_the_words(some))
            row = [number for number, board in some]
            draw.shuffle(row)
            ordered = [(number, dict(some)[number]) for number in row]
            told = told_twice(self, tree_of, some, row)
            self.assertEqual(told, tree_by_the_words(ordered))
            self.assertEqual(told, tree_of(ordered))
            cut += len(pieces_of(tree)) > len(some)
            for piece in some:
                self.assertIn(piece[0], row)
        self.assertGreater(cut, 30)

    def test_grown_one_by_one(self):
        draw = random.Random(32)
        for _ in range(60):
            some = drawn_some(draw, draw.randint(1, 6))
            tree = None
            for k, piece in enumerate(some):
                tree = told_twice(self, grown_by, tree, piece)
                self.assertEqual(tree, tree_of(some[:k + 1]))

    def test_the_pieces_fill_the_boards(self):
        draw = random.Random(33)
        for _ in range(50):
            some = drawn_some(draw, draw.randint(1, 5))
            pieces = pieces_of(tree_of(some))
            self.assertEqual({number for number, part in pieces}, {number for number, board in some})
            for number, board in some:
                self.assertTrue(does_fill(board, [part for mine, part in pieces if mine == number]))

    def test_many_figures(self):
        slant = made_board([(-MANY, 0, -1, 1), (MANY, 0, 1, 1), (MANY, MANY, 1, 1), (-MANY, MANY, -1, 1)])
        flat = sheet(-MANY, MANY, -MANY, MANY, 0)
        tree = tree_of([(1, flat), (2, slant)])
        self.assertEqual(tree, tree_by_the_words([(1, flat), (2, slant)]))
        self.assertEqual(len(pieces_of(tree)), 3)
        draw = random.Random(34)
        reach = 10 ** 2000 - 1
        some = [(k, made_board([drawn_spot(draw, reach, reach) for _ in range(3)])) for k in range(3)]
        self.assertTrue(tree_judged(some, tree_of(some)))


class GrownTest(unittest.TestCase):
    def test_from_none(self):
        self.assertEqual(told_twice(self, grown_by, None, (7, FLOOR)), (LEVEL, ((7, FLOOR),), None, None))

    def test_behind_the_others_here(self):
        tree = (LEVEL, ((7, FLOOR), (2, LEFT_FLOOR)), None, None)
        self.assertEqual(grown_by(tree, (3, RIGHT_FLOOR))[1], ((7, FLOOR), (2, LEFT_FLOOR), (3, RIGHT_FLOOR)))

    def test_with_sides_exchanged(self):
        tree = ((0, 0, -1, 0), (), None, None)
        self.assertEqual(grown_by(tree, (7, FLOOR)), ((0, 0, -1, 0), ((7, FLOOR),), None, None))
        grown = grown_by(tree, (1, WALL))
        self.assertEqual(grown[2], (UPRIGHT, ((1, HIGH_WALL),), None, None))
        self.assertEqual(grown[3], (UPRIGHT, ((1, LOW_WALL),), None, None))

    def test_only_parts_with_area_go_on(self):
        beneath = (UPRIGHT, (), None, None)
        tree = (LEVEL, (), beneath, beneath)
        wanted = (LEVEL, (), beneath, (UPRIGHT, ((1, HIGH_WALL),), None, None))
        self.assertEqual(told_twice(self, grown_by, tree, (1, HIGH_WALL)), wanted)

    def test_the_new_nodes_plane_is_plain(self):
        draw = random.Random(35)
        for _ in range(40):
            tree = tree_of(drawn_some(draw, 3))
            piece = (99, drawn_board(draw))
            for number, part in pieces_of(grown_by(tree, piece)):
                if number == 99:
                    self.assertEqual(plane_of(part), plane_of(piece[1]))

    def test_right_stays_right(self):
        draw = random.Random(36)
        for _ in range(60):
            some = drawn_some(draw, draw.randint(1, 5))
            tree = tree_of(some)
            if draw.random() < 0.5:
                plane = made_plane(draw.randint(-3, 3), draw.randint(-3, 3), draw.choice([-1, 1]), draw.randint(-3, 3))
                below, above = [tree_of(parts_of(some, plane, side)) for side in (0, 1)]
                stay = tuple((n, b) for n, b in some if cut_by(b, plane) == (None, None))
                tree = (plane, stay, below, above)
            self.assertTrue(tree_judged(some, tree))
            piece = (77, drawn_board(draw, draw.choice([1, 6])))
            grown = told_twice(self, grown_by, tree, piece)
            self.assertTrue(tree_judged(some + [piece], grown))
            self.assertEqual(shrunk_by(grown, 77), tree)
            number = draw.choice(some)[0]
            shrunk = told_twice(self, shrunk_by, grown, number)
            rest = [mine for mine in some + [piece] if mine[0] != number]
            self.assertTrue(tree_judged(rest, shrunk))

    def test_a_hundred_and_twenty_nodes(self):
        planes = [(1, 0, 0, k) for k in range(120)]
        tree = empty_chain(planes)
        long = sheet(-1, 121, 0, 1, 5)
        grown = grown_by(tree, (3, long))
        self.assertEqual(len(pieces_of(grown)), 121)
        self.assertTrue(tree_judged([(3, long)], grown))
        self.assertIsNone(shrunk_by(grown, 3))
        self.assertEqual(shrunk_by(grown, 4), grown)
        painted = painted_by(grown, (0, 0, 0, 1))
        self.assertEqual(sorted(painted), sorted(pieces_of(grown)))
        self.assertEqual([part[0][0] for number, part in painted], list(range(119, -1, -1)) + [-1])


class ShrunkTest(unittest.TestCase):
    def test_of_none(self):
        self.assertIsNone(shrunk_by(None, 3))

    def test_a_number_that_no_piece_bears(self):
        tree = tree_of([(0, FLOOR), (1, WALL)])
        self.assertEqual(told_twice(self, shrunk_by, tree, 2), tree)
        self.assertEqual(shrunk_by(tree, -1), tree)

    def test_nodes_without_pieces_become_none(self):
        tree = tree_of([(0, FLOOR), (1, WALL)])
        self.assertEqual(told_twice(self, shrunk_by, tree, 1), (LEVEL, ((0, FLOOR),), None, None))
        high = (UPRIGHT, ((1, HIGH_WALL),), None, None)
        low = (UPRIGHT, ((1, LOW_WALL),), None, None)
        self.assertEqual(shrunk_by(tree, 0), (LEVEL, (), low, high))
        self.assertIsNone(shrunk_by(shrunk_by(tree, 0), 1))
        self.assertIsNone(shrunk_by(tree_of([(4, WALL)]), 4))

    def test_a_node_stays_for_what_is_beneath(self):
        lone = (LEVEL, (), None, (UPRIGHT, ((1, HIGH_WALL), (2, HIGH_WALL)), None, None))
        self.assertEqual(shrunk_by(lone, 2), (LEVEL, (), None, (UPRIGHT, ((1, HIGH_WALL),), None, None)))
        lone = (LEVEL, (), (UPRIGHT, ((1, LOW_WALL),), None, None), None)
        self.assertEqual(shrunk_by(lone, 2), lone)

    def test_empty_nodes_of_other_hands(self):
        empty = (UPRIGHT, (), (LEVEL, (), None, None), None)
        self.assertIsNone(shrunk_by(empty, 1))
        tree = (LEVEL, ((0, FLOOR),), empty, empty)
        self.assertEqual(shrunk_by(tree, 1), (LEVEL, ((0, FLOOR),), None, None))

    def test_the_others_here_keep_their_order(self):
        some = [(k, FLOOR) for k in (5, 3, 9, 1)]
        self.assertEqual(shrunk_by(tree_of(some), 3)[1], ((5, FLOOR), (9, FLOOR), (1, FLOOR)))

    def test_all_pieces_of_the_number(self):
        draw = random.Random(37)
        for _ in range(60):
            some = drawn_some(draw, draw.randint(2, 6))
            number = draw.choice(some)[0]
            shrunk = shrunk_by(tree_of(some), number)
            rest = [piece for piece in some if piece[0] != number]
            self.assertTrue(tree_judged(rest, shrunk))
            self.assertFalse([piece for piece in pieces_of(shrunk) if piece[0] == number])


class PiecesTest(unittest.TestCase):
    def test_here_below_above(self):
        self.assertEqual(pieces_of(None), [])
        tree = tree_of([(0, FLOOR), (1, WALL), (2, LEFT_FLOOR)])
        wanted = [(0, FLOOR), (2, LEFT_FLOOR), (1, LOW_WALL), (1, HIGH_WALL)]
        self.assertEqual(told_twice(self, pieces_of, tree), wanted)
        deep = (LEVEL, ((1, FLOOR),), (UPRIGHT, ((2, WALL),), (LEVEL, ((3, FLOOR),), None, None), None),
                (UPRIGHT, ((4, WALL),), None, (LEVEL, ((5, FLOOR), (6, FLOOR)), None, None)))
        self.assertEqual([number for number, board in pieces_of(deep)], [1, 2, 3, 4, 5, 6])


class PaintedTest(unittest.TestCase):
    def painted(self, tree, spot):
        return told_twice(self, painted_by, tree, spot)

    def test_none(self):
        self.assertEqual(self.painted(None, (0, 0, 0, 1)), [])
        self.assertEqual(self.painted((LEVEL, (), None, None), (0, 0, 0, 1)), [])

    def test_below_and_above(self):
        tree = tree_of([(0, FLOOR), (1, WALL), (2, LEFT_FLOOR)])
        here = [(0, FLOOR), (2, LEFT_FLOOR)]
        for x in (-9, 9):
            self.assertEqual(self.painted(tree, (x, 0, 5, 1)), [(1, LOW_WALL)] + here + [(1, HIGH_WALL)])
            self.assertEqual(self.painted(tree, (x, 0, -5, 1)), [(1, HIGH_WALL)] + here + [(1, LOW_WALL)])

    def test_on_a_nodes_plane(self):
        sides = [sheet(1, 2, 0, 1, 5), sheet(-2, -1, 0, 1, 5)]
        tree = (UPRIGHT, (), tree_of([(1, sides[1])]), tree_of([(2, sides[0])]))
        self.assertEqual(self.painted(tree, (0, 0, 0, 1)), [(2, sides[0]), (1, sides[1])])
        self.assertEqual(self.painted(tree, (-1, 0, 0, 1)), [(2, sides[0]), (1, sides[1])])
        self.assertEqual(self.painted(tree, (1, 0, 0, 1)), [(1, sides[1]), (2, sides[0])])
        turned = (turned_about(UPRIGHT), (), tree[3], tree[2])
        self.assertEqual(self.painted(turned, (0, 0, 0, 1)), [(1, sides[1]), (2, sides[0])])

    def test_no_piece_hides_a_later_one(self):
        draw = random.Random(38)
        checked = 0
        for _ in range(70):
            some = drawn_some(draw, draw.randint(2, 5))
            tree = tree_of(some)
            spot = drawn_spot(draw, 5, 3)
            if not is_free([board for number, board in some], spot):
                continue
            painted = self.painted(tree, spot)
            self.assertEqual(sorted(painted), sorted(pieces_of(tree)))
            boards = [part for number, part in painted]
            self.assertFalse(hides_later(boards, range(len(boards)), spot))
            checked += 1
        self.assertGreater(checked, 40)

    def test_rings_too(self):
        for boards in (THREE_RING, FOUR_RING):
            some = list(enumerate(boards))
            for row in permutations(range(len(boards))):
                painted = [part for number, part in self.painted(tree_of(some, list(row)), HIGH_UP)]
                self.assertGreater(len(painted), len(boards))
                self.assertFalse(hides_later(painted, range(len(painted)), HIGH_UP))

    def test_on_the_planes_of_a_shrunk_tree(self):
        some = list(enumerate(FOUR_RING))
        for number in range(4):
            tree = shrunk_by(tree_of(some, [number] + [k for k in range(4) if k != number]), number)
            plane = plane_of(FOUR_RING[number])
            corner = FOUR_RING[number][0]
            spot = made_spot(corner[0] - 3 * plane[1], corner[1] + 3 * plane[0], corner[2])
            rest = [part for mine, part in pieces_of(tree)]
            self.assertEqual(side_of(plane, spot), 0)
            if is_free(rest, spot):
                painted = [part for mine, part in self.painted(tree, spot)]
                self.assertFalse(hides_later(painted, range(len(painted)), spot))

    def test_not_free(self):
        tree = tree_of([(8, FLOOR), (5, WALL), (-3, sheet(7, 8, 7, 8, 3)), (6, sheet(7, 8, 7, 8, -3))])
        for spot, number in (
            ((9, 9, 0, 1), 8), ((0, 9, 0, 1), 8), ((0, 9, 5, 1), 5), ((9, 9, 3, 1), -3), ((0, 9, 3, 1), 5),
            ((0, 9, -3, 1), 5), ((9, 9, -3, 1), 6), ((0, 0, 0, 1), 8),
        ):
            refusal = refusal_of(painted_by, tree, spot)
            self.assertIsInstance(refusal, NotFree)
            self.assertEqual(refusal.board, number)
        two = (LEVEL, (), tree_of([(6, flat_board([(7, 7), (8, 7), (8, 8)], -3))]), tree_of([(-3, WALL)]))
        self.assertEqual(refusal_of(painted_by, two, (0, 1, -3, 1)).board, 6)
        self.assertIsNone(refusal_of(painted_by, two, (1, 1, 0, 1)))

    def test_hiding_from_both_sides_of_a_cut(self):
        tree = tree_of([(0, FLOOR), (1, WALL)])
        self.assertTrue(does_hide(FLOOR, WALL, (3, 1, 9, 1)))
        self.assertTrue(does_hide(WALL, FLOOR, (3, 1, 9, 1)))
        painted = [part for number, part in self.painted(tree, (3, 1, 9, 1))]
        self.assertFalse(hides_later(painted, range(3), (3, 1, 9, 1)))


if __name__ == "__main__":
    unittest.main()
