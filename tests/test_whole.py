"""What point 3 promises over the whole program: several modules at once, on the same boards and spots."""

import random
import unittest
from fractions import Fraction
from itertools import permutations

from boardsight.cuts import does_fill
from boardsight.desk import Desk
from boardsight.errors import NotFree
from boardsight.frames import made_frame
from boardsight.leasts import least_tree, table_judged
from boardsight.loosening import loosened
from boardsight.orders import hiding_pairs, order_from, order_judged
from boardsight.pictures import painting_of, shares_of, tiles_judged, tiles_of
from boardsight.polygons import area_of
from boardsight.ratios import total_of
from boardsight.sightjudge import is_parting, sight_judged
from boardsight.sights import does_hide, is_free, sight_of
from boardsight.texts import read_yard, spot_text, yard_text
from boardsight.treejudge import tree_judged
from boardsight.trees import grown_by, painted_by, pieces_of, shrunk_by, tree_of
from boardsight.views import row_at, seen_at
from boardsight.walks import changes_of, walk_of
from boardsight.wayjudge import stretch_judged
from boardsight.ways import spot_at, stretch_of
from boardsight.yards import Yard
from helper import (
    CROSS, FLOOR, FOUR_RING, HIGH_UP, HIGH_WALL, LEFT_FLOOR, THREE_RING, WALL, as_fraction, as_place, do_share_area,
    drawn_board, drawn_frame, drawn_scene, drawn_spot, drawn_way, hides_later, is_picture, is_right_stretch, number_of,
    points_of, refusal_of, sheet, told_twice,
)

SCENES = [
    [], CROSS, THREE_RING, FOUR_RING, [FLOOR, WALL], [LEFT_FLOOR, HIGH_WALL, sheet(0, 4, 0, 4, 2)], [FLOOR, FLOOR],
    CROSS + [sheet(-1, 1, -1, 1, 10)], [sheet(-1, 1, -1, 1, depth) for depth in (3, 1, 2)] + [WALL],
]


def drawn_scenes(seed, many, most=4):
    draw = random.Random(seed)
    for boards in SCENES:
        yield draw, boards[:most]
    for _ in range(many):
        yield draw, [drawn_board(draw, draw.choice([1, 2, 4])) for _ in range(draw.randint(1, most))]


def free_spots(draw, boards, many):
    spots = [HIGH_UP, (0, 0, 0, 1)] + [drawn_spot(draw, draw.choice([3, 9, 40])) for _ in range(many)]
    return [spot for spot in spots if is_free(boards, spot)]


class PairsAndOrdersTest(unittest.TestCase):
    def test_a_line_of_sight_or_a_parting_plane_and_never_both(self):
        for draw, boards in drawn_scenes(61, 60):
            for spot in free_spots(draw, boards, 4):
                pairs = hiding_pairs(boards, spot)
                for i, one in enumerate(boards):
                    for j, other in enumerate(boards):
                        told = sight_of(one, other, spot)
                        self.assertTrue(sight_judged(one, other, spot, told))
                        self.assertEqual(told[0] == "hides", does_hide(one, other, spot))
                        self.assertEqual(told[0] == "hides", (i, j) in pairs)

    def test_an_order_or_a_ring_and_never_both(self):
        for draw, boards in drawn_scenes(62, 60, 5):
            for spot in free_spots(draw, boards, 4):
                told = order_from(boards, spot)
                self.assertTrue(order_judged(boards, spot, told))
                pairs = hiding_pairs(boards, spot)
                rows = [list(row) for row in permutations(range(len(boards)))
                        if not any(row.index(i) < row.index(j) for i, j in pairs)]
                self.assertEqual(told[1] if told[0] == "order" else None, min(rows, default=None))

    def test_a_loosened_ring_has_an_order(self):
        for draw, boards in drawn_scenes(63, 40):
            for spot in free_spots(draw, boards, 2):
                pieces, row = loosened(boards, spot)
                bare = [board for number, board in pieces]
                self.assertEqual(order_from(bare, spot)[:2], ("order", row))
                self.assertTrue(order_judged(bare, spot, order_from(bare, spot)))


class TreesTest(unittest.TestCase):
    def test_a_tree_paints_right_from_every_free_spot(self):
        for draw, boards in drawn_scenes(64, 40):
            some = list(enumerate(boards))
            tree = tree_of(some)
            least, table = least_tree(some)
            self.assertTrue(table_judged(some, table))
            self.assertLessEqual(len(pieces_of(least)), len(pieces_of(tree)))
            for one in (tree, least, tree_of(some, [number for number, board in reversed(some)])):
                self.assertTrue(tree_judged(some, one))
                for number, board in some:
                    self.assertTrue(does_fill(board, [part for mine, part in pieces_of(one) if mine == number]))
                for spot in free_spots(draw, boards, 4):
                    told = [board for number, board in painted_by(one, spot)]
                    self.assertFalse(hides_later(told, range(len(told)), spot))

    def test_grown_and_shrunk(self):
        for draw, boards in drawn_scenes(65, 30):
            some = list(enumerate(boards))
            tree = None
            for k, piece in enumerate(some):
                tree = grown_by(tree, piece)
                self.assertTrue(tree_judged(some[:k + 1], tree))
            for k, piece in enumerate(some):
                tree = shrunk_by(tree, piece[0])
                self.assertTrue(tree_judged(some[k + 1:], tree))
            self.assertIsNone(tree)


class PicturesTest(unittest.TestCase):
    def frames_for(self, draw, boards):
        frames = [made_frame(HIGH_UP, (-30, -30, 0, 1), (60, 0, 0), (0, 60, 0)),
                  made_frame((0, 0, 0, 1), (-1, -1, 1, 1), (2, 0, 0), (0, 2, 0)), drawn_frame(draw)]
        return [frame for frame in frames if is_free(boards, frame[0])]

    def test_the_pieces_of_a_tree_painted_in_a_frame_are_a_picture(self):
        for draw, boards in drawn_scenes(66, 30):
            if do_share_area(boards):
                continue
            for frame in self.frames_for(draw, boards):
                pieces, row = loosened(boards, frame[0])
                for told in (painted_by(tree_of(list(enumerate(boards))), frame[0]), [pieces[place] for place in row]):
                    painting = painting_of(frame, told)
                    self.assertTrue(tiles_judged(frame, boards, painting))
                    self.assertTrue(is_picture(frame, boards, painting))

    def test_tiles_rows_and_single_places_agree(self):
        for draw, boards in drawn_scenes(67, 30):
            for frame in self.frames_for(draw, boards):
                tiles = tiles_of(frame, boards)
                self.assertEqual(total_of([area_of(polygon) for number, polygon in tiles]), (1, 1))
                bare = [area_of(polygon) for number, polygon in tiles if number is None]
                self.assertEqual(total_of(shares_of(frame, boards) + bare), (1, 1))
                for number, polygon in tiles:
                    u, v = [sum(point[k] * (5 + 3 * at) for at, point in enumerate(points_of(polygon)))
                            / sum(5 + 3 * at for at in range(len(polygon))) for k in range(2)]
                    self.assertEqual(seen_at(frame, boards, as_place(u, v)), number)
                    row = [one[2] for one in row_at(frame, boards, as_fraction(v))
                           if number_of(one[0]) < u < number_of(one[1])]
                    self.assertEqual(row, [] if number is None else [number])


class WaysTest(unittest.TestCase):
    def test_changes_and_orders_agree_with_what_is_told_at_single_spots(self):
        for draw, boards in drawn_scenes(68, 30):
            way = drawn_way(draw, boards)
            changes = [Fraction(0)] + [number_of(at) for at in changes_of(boards, way)] + [Fraction(1)]
            walk = walk_of(boards, way)
            self.assertEqual(len(walk), len(changes) - 1)
            for k in range(25):
                t = Fraction(2 * k + 1, 50)
                spot = spot_at(way, as_fraction(t))
                if t in changes or not is_free(boards, spot):
                    continue
                part = [found for low, high, found in walk if number_of(low) < t < number_of(high)]
                self.assertEqual(len(part), 1)
                found = order_from(boards, spot)
                self.assertEqual(found[0], part[0][0])
                if found[0] == "order":
                    self.assertEqual(found[1], part[0][1])

    def test_each_board_hides_each_other_one_in_one_stretch(self):
        for draw, boards in drawn_scenes(69, 30, 3):
            way = drawn_way(draw, boards)
            for one in boards:
                for other in boards:
                    told = stretch_of(one, other, way)
                    self.assertTrue(stretch_judged(one, other, way, told))
                    self.assertTrue(is_right_stretch(one, other, way, told))
                    moments = [as_fraction(Fraction(k, 30)) for k in range(31)]
                    free = [t for t in moments if is_free([one, other], spot_at(way, t))]
                    row = "".join("x" if does_hide(one, other, spot_at(way, t)) else "." for t in free)
                    self.assertNotIn(".", row.strip("."))
                    if told[0] == "never":
                        self.assertNotIn("x", row)
                        self.assertTrue(is_parting(told[1], one, other, way[0]))

    def test_an_order_stays_right_between_the_changes(self):
        for draw, boards in drawn_scenes(70, 30):
            way = drawn_way(draw, boards)
            for low, high, found in walk_of(boards, way):
                low, high = number_of(low), number_of(high)
                for share in (Fraction(1, 7), Fraction(1, 2), Fraction(6, 7)):
                    spot = spot_at(way, as_fraction(low + share * (high - low)))
                    if found[0] == "order" and is_free(boards, spot):
                        self.assertFalse(hides_later(boards, found[1], spot))


class YardsTest(unittest.TestCase):
    def test_a_yard_written_read_and_asked_again_answers_alike(self):
        for draw, boards in drawn_scenes(71, 30, 6):
            names = ["a", "bb", "ccc", "dd", "e", "f"][:len(boards)]
            yard = Yard()
            desk = Desk()
            for name, board in zip(names, boards):
                corners = [spot_text(corner) for corner in board]
                desk.say(" ".join(["board", name] + corners[1:] + corners[:1]))
                yard.put(name, list(board))
            again = read_yard(yard_text(yard))
            self.assertEqual(again.tree(), yard.tree())
            self.assertEqual(desk.say("pieces"), str(len(pieces_of(again.tree()))))
            for spot in free_spots(draw, boards, 3):
                found = order_from(again.boards(), spot)
                self.assertEqual(found, order_from(boards, spot))
                told = " ".join([found[0]] + [again.names()[place] for place in found[1]])
                self.assertEqual(desk.say("order " + spot_text(spot)), told)
                pieces = [(number, board) for number, board in painted_by(again.tree(), spot)]
                self.assertEqual(pieces, painted_by(yard.tree(), spot))

    def test_not_free_is_told_alike(self):
        draw = random.Random(72)
        for _ in range(30):
            boards, spot = drawn_scene(draw, 3)
            on = boards[1][0]
            refusal = refusal_of(order_from, boards, on)
            self.assertIsInstance(refusal, NotFree)
            for deed in (hiding_pairs, loosened):
                self.assertEqual(refusal_of(deed, boards, on).board, refusal.board)
            for way in ((on, spot), (spot, on)):
                self.assertEqual(refusal_of(changes_of, boards, way).board, refusal.board)
                self.assertEqual(refusal_of(walk_of, boards, way).board, refusal.board)


class AskedAgainTest(unittest.TestCase):
    def test_answers_are_alike_and_nothing_that_is_handed_in_is_changed(self):
        frame = made_frame((1, 1, 50, 1), (-9, -9, 20, 1), (20, 0, 0), (0, 20, 1))
        for draw, boards in drawn_scenes(73, 10):
            some = list(enumerate(boards))
            way = drawn_way(draw, boards)
            tree = tree_of(some)
            for deed, given in (
                (hiding_pairs, (boards, way[0])), (order_from, (boards, way[0])), (loosened, (boards, way[0])),
                (tree_of, (some,)), (least_tree, (some,)), (pieces_of, (tree,)), (painted_by, (tree, way[1])),
                (walk_of, (boards, way)), (changes_of, (boards, way)),
            ):
                told_twice(self, deed, *given)
            if is_free(boards, frame[0]):
                for deed in (tiles_of, shares_of):
                    told_twice(self, deed, frame, boards)
                told_twice(self, painting_of, frame, some)
                told_twice(self, tiles_judged, frame, boards, tiles_of(frame, boards))


if __name__ == "__main__":
    unittest.main()
