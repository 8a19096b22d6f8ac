import random
import unittest

from boardsight.boards import made_board, middle, plane_of
from boardsight.cuts import cut_by
from boardsight.planes import made_plane, turned_about
from boardsight.spots import made_spot, shared_spot
from boardsight.treejudge import tree_judged
from boardsight.trees import pieces_of, tree_of
from helper import (
    FLOOR, FOUR_RING, LEFT_FLOOR, MANY, RIGHT_FLOOR, THREE_RING, WALL, drawn_board, parts_of, sheet, told_twice,
)

LEVEL = (0, 0, 1, 0)
UPRIGHT = (1, 0, 0, 0)
BOTH = [(0, FLOOR), (1, WALL)]


def leaf(plane, *here):
    return (plane, here, None, None)


def drawn_tree(draw, pieces, depth):
    """A right tree with planes of any kind and the pieces here in any order."""
    if not pieces and draw.random() < 0.7:
        return None
    if depth > 0 and draw.random() < 0.6:
        arrow = [draw.randint(-3, 3), draw.randint(-3, 3), draw.choice([-2, -1, 1])]
        plane = made_plane(arrow[0], arrow[1], arrow[2], draw.randint(-4, 4))
    elif pieces:
        plane = plane_of(draw.choice(pieces)[1])
    else:
        return (UPRIGHT, (), None, None)
    if draw.random() < 0.5:
        plane = turned_about(plane)
    stay = [piece for piece in pieces if cut_by(piece[1], plane) == (None, None)]
    draw.shuffle(stay)
    below, above = [drawn_tree(draw, parts_of(pieces, plane, side), depth - 1) for side in (0, 1)]
    return (plane, tuple(stay), below, above)


def nodes_of(tree, path=()):
    if tree is None:
        return []
    return [path] + nodes_of(tree[2], path + (2,)) + nodes_of(tree[3], path + (3,))


def node_at(tree, path):
    for side in path:
        tree = tree[side]
    return tree


def with_node(tree, path, node):
    if not path:
        return node
    parts = list(tree)
    parts[path[0]] = with_node(tree[path[0]], path[1:], node)
    return tuple(parts)


class TreeJudgeTest(unittest.TestCase):
    def judged(self, some, tree):
        told = told_twice(self, tree_judged, some, tree)
        self.assertIs(type(told), bool)
        return told

    def right(self, some, tree):
        self.assertIs(self.judged(some, tree), True)

    def wrong(self, some, tree):
        self.assertIs(self.judged(some, tree), False)

    def test_no_boards(self):
        self.right([], None)
        self.right([], leaf(LEVEL))
        self.right([], (LEVEL, (), leaf(UPRIGHT), (UPRIGHT, (), None, leaf((1, 2, 3, 4)))))
        self.wrong([], leaf(LEVEL, (0, FLOOR)))
        self.wrong([], (LEVEL, (), None, leaf(UPRIGHT, (1, WALL))))
        self.wrong([], (LEVEL, (), leaf(UPRIGHT, (1, WALL)), None))

    def test_one_board(self):
        some = [(3, FLOOR)]
        self.right(some, leaf(LEVEL, (3, FLOOR)))
        self.right(some, leaf(turned_about(LEVEL), (3, FLOOR)))
        self.right(some, (UPRIGHT, (), leaf(LEVEL, (3, LEFT_FLOOR)), leaf(LEVEL, (3, RIGHT_FLOOR))))
        self.right(some, ((1, 0, 0, 9), (), leaf(LEVEL, (3, FLOOR)), None))
        self.right(some, ((1, 0, 0, 4), (), leaf(LEVEL, (3, FLOOR)), None))
        self.right(some, ((1, 0, 0, -4), (), None, leaf(LEVEL, (3, FLOOR))))
        self.right(some, (LEVEL, ((3, FLOOR),), leaf(UPRIGHT), leaf(UPRIGHT)))
        self.wrong(some, None)
        self.wrong(some, leaf(LEVEL))
        self.wrong(some, leaf(UPRIGHT, (3, FLOOR)))
        self.wrong(some, leaf((0, 0, 1, 1), (3, FLOOR)))
        self.wrong(some, leaf(LEVEL, (4, FLOOR)))
        self.wrong(some, leaf(LEVEL, (3, LEFT_FLOOR)))
        self.wrong(some, leaf(LEVEL, (3, LEFT_FLOOR), (3, RIGHT_FLOOR)))
        self.wrong(some, leaf(LEVEL, (3, FLOOR), (3, FLOOR)))
        self.wrong(some, (UPRIGHT, (), leaf(LEVEL, (3, RIGHT_FLOOR)), leaf(LEVEL, (3, LEFT_FLOOR))))
        self.wrong(some, (UPRIGHT, (), leaf(LEVEL, (3, LEFT_FLOOR)), None))
        self.wrong(some, (UPRIGHT, (), None, leaf(LEVEL, (3, RIGHT_FLOOR))))
        self.wrong(some, (UPRIGHT, (), leaf(LEVEL, (3, FLOOR)), leaf(LEVEL, (3, RIGHT_FLOOR))))
        self.wrong(some, (LEVEL, ((3, FLOOR),), leaf(LEVEL, (3, FLOOR)), None))

    def test_the_pieces_here_in_any_order(self):
        some = [(5, FLOOR), (-7, LEFT_FLOOR), (6, FLOOR)]
        for order in ((0, 1, 2), (2, 1, 0), (1, 0, 2), (1, 2, 0)):
            self.right(some, leaf(LEVEL, *[some[k] for k in order]))
        self.wrong(some, leaf(LEVEL, some[0], some[1]))
        self.wrong(some, leaf(LEVEL, some[0], some[1], some[1]))
        self.wrong(some, leaf(LEVEL, some[0], some[1], some[2], some[2]))
        self.wrong(some, leaf(LEVEL, some[0], some[1], (5, FLOOR)))
        self.wrong(some, leaf(LEVEL, (5, LEFT_FLOOR), (-7, FLOOR), some[2]))

    def test_the_trees_own(self):
        for boards in (THREE_RING, FOUR_RING):
            some = [(3 * k - 4, board) for k, board in enumerate(boards)]
            self.right(some, tree_of(some))
            self.right(some[::-1], tree_of(some))
            self.wrong(some[1:], tree_of(some))
            self.wrong(some, tree_of(some[1:]))
            self.wrong([(number + 1, board) for number, board in some], tree_of(some))

    def test_drawn_ones_of_other_hands(self):
        draw = random.Random(41)
        for _ in range(80):
            many = draw.randint(0, 5)
            some = list(zip(draw.sample(range(-9, 20), many), [drawn_board(draw, 2) for _ in range(many)]))
            tree = drawn_tree(draw, some, 3)
            self.right(some, tree)
            shuffled = list(some)
            draw.shuffle(shuffled)
            self.right(shuffled, tree)

    def test_drawn_ones_spoiled(self):
        draw = random.Random(42)
        spoiled = 0
        for _ in range(60):
            some = list(zip((4, 1, 7), [drawn_board(draw, 2) for _ in range(3)]))
            tree = drawn_tree(draw, some, 2)
            for path in nodes_of(tree):
                node = node_at(tree, path)
                for wrong in self.spoiled_nodes(draw, node, tree):
                    self.wrong(some, with_node(tree, path, wrong))
                    spoiled += 1
        self.assertGreater(spoiled, 400)

    def spoiled_nodes(self, draw, node, tree):
        plane, here, below, above = node
        aside = draw.choice(pieces_of(tree))
        wrong = [(plane, here + (aside,), below, above)]
        if pieces_of(node):
            wrong.append(None)
        if here:
            number, part = here[0]
            smaller = list(part)
            smaller[0] = shared_spot(part[0], middle(part), (1, 9))
            wrong.append((plane, here[1:], below, above))
            wrong.append((plane, here + here[:1], below, above))
            wrong.append((plane, ((number + 1, part),) + here[1:], below, above))
            wrong.append((plane, ((number, made_board(smaller)),) + here[1:], below, above))
        if pieces_of(below):
            wrong.append((plane, here, None, above))
        if pieces_of(above):
            wrong.append((plane, here, below, None))
        if sorted(pieces_of(below)) != sorted(pieces_of(above)):
            wrong.append((plane, here, above, below))
            wrong.append((turned_about(plane), here, below, above))
        return wrong

    def test_pieces_at_another_node(self):
        low, high = parts_of([BOTH[1]], LEVEL, 0)[0], parts_of([BOTH[1]], LEVEL, 1)[0]
        self.right(BOTH, (LEVEL, (BOTH[0],), leaf(UPRIGHT, low), leaf(UPRIGHT, high)))
        self.wrong(BOTH, (LEVEL, (BOTH[0],), leaf(UPRIGHT, high), leaf(UPRIGHT, low)))
        self.wrong(BOTH, (LEVEL, (BOTH[0], low), None, leaf(UPRIGHT, high)))
        self.wrong(BOTH, (LEVEL, (), leaf(UPRIGHT, low), leaf(UPRIGHT, high, BOTH[0])))
        self.wrong(BOTH, (LEVEL, (BOTH[0],), leaf(UPRIGHT, low, high), leaf(UPRIGHT)))
        self.wrong(BOTH, (LEVEL, (BOTH[0],), leaf(UPRIGHT, low), leaf(UPRIGHT, (1, WALL))))
        self.wrong(BOTH, leaf(LEVEL, BOTH[0], BOTH[1]))

    def test_a_deep_one(self):
        long = sheet(-1, 121, 0, 1, 5)
        tree = None
        for k in range(119, -1, -1):
            below = tree_of([(8, sheet(max(k - 1, -1), k, 0, 1, 5))])
            tree = ((1, 0, 0, k), (), below, tree or tree_of([(8, sheet(119, 121, 0, 1, 5))]))
        self.right([(8, long)], tree)
        self.wrong([(7, long)], tree)
        self.wrong([(8, sheet(-1, 122, 0, 1, 5))], tree)

    def test_many_figures(self):
        board = sheet(-MANY, MANY, 0, 1, 5)
        some = [(1, board)]
        for top in (0, 1, MANY - 1):
            plane = made_plane(MANY, 0, 0, top)
            parts = cut_by(board, plane)
            self.right(some, (plane, (), tree_of([(1, parts[0])]), tree_of([(1, parts[1])])))
            off = made_plane(MANY, 0, 0, top + 1)
            self.wrong(some, (off, (), tree_of([(1, parts[0])]), tree_of([(1, parts[1])])))
        lifted = made_board([made_spot(0, 0, 5 * MANY + 1, MANY), (1, 0, 5, 1), (0, 1, 5, 1)])
        self.wrong([(1, lifted)], leaf((0, 0, 1, 5), (1, lifted)))


if __name__ == "__main__":
    unittest.main()
