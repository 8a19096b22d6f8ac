import random
import unittest

from boardsight.boards import made_board
from boardsight.errors import NoBoard, NoDeed, NoName, TooMany
from boardsight.treejudge import tree_judged
from boardsight.trees import tree_of
from boardsight.yards import Yard, is_name
from helper import FLOOR, MANY, WALL, drawn_board, refused_with, sheet

NAMES = ["a", "zz", "board", "back", "abcdefgh", "q"]
BOARDS = [sheet(-1, 1, -1, 1, depth) for depth in (5, 3, 9)] + [FLOOR, WALL, sheet(0, 2, 0, 2, 5)]
NO_CORNERS = [(0, 0, 0, 1), (1, 1, 1, 1), (2, 2, 2, 1)]


def yard_of(names, boards=BOARDS):
    yard = Yard()
    for name, board in zip(names, boards):
        yard.put(name, list(board))
    return yard


def state_of(yard):
    return (yard.names(), yard.boards(), yard.deeds(), yard.tree(), [yard.place_of(name) for name in yard.names()])


class NameTest(unittest.TestCase):
    def test_names(self):
        for text in ("a", "z", "ab", "abcdefgh", "zzzzzzzz", "board", "ok", "never"):
            self.assertIs(is_name(text), True)

    def test_all_else(self):
        for text in ("", "abcdefghi", "A", "aB", "a b", " a", "a ", "a1", "1", "-", "a-b", "a_b", "a\n", "\n", "`", "{",
                     "\u00e4", "\u03b1", "\u00df", "a\u0301", "\uff41", "a" * 5000):
            self.assertIs(is_name(text), False)

    def test_no_texts(self):
        for thing in (None, True, False, 0, 7, [], ["a"], ("a",), {"a": 1}, {"a"}, b"a"):
            self.assertIs(is_name(thing), False)


class YardTest(unittest.TestCase):
    def check(self, yard, names, deeds):
        """The names and how many deeds are left; all else that is told agrees, each list is a new one."""
        self.assertEqual(yard.names(), names)
        self.assertEqual(len(yard.boards()), len(names))
        self.assertEqual([yard.place_of(name) for name in names], list(range(len(names))))
        self.assertEqual(yard.deeds(), deeds)
        self.assertEqual(yard.tree(), tree_of(list(enumerate(yard.boards()))))
        self.assertTrue(tree_judged(list(enumerate(yard.boards())), yard.tree()))
        before = state_of(yard)
        yard.names().append("more")
        yard.boards().clear()
        self.assertEqual(state_of(yard), before)

    def check_refused(self, yard, kind, deed, *given):
        before = state_of(yard)
        self.assertTrue(refused_with(kind, deed, *given))
        self.assertEqual(state_of(yard), before)

    def test_empty(self):
        yard = Yard()
        self.check(yard, [], 0)
        self.assertIsNone(yard.tree())
        self.check_refused(yard, NoDeed, yard.back)
        self.assertIsNone(yard.settle())
        self.check(yard, [], 0)

    def test_put(self):
        yard = Yard()
        for k in range(6):
            self.assertIsNone(yard.put(NAMES[k], list(BOARDS[k])))
            self.check(yard, NAMES[:k + 1], k + 1)
            self.assertEqual(yard.boards(), BOARDS[:k + 1])

    def test_boards_are_told_in_their_form(self):
        yard = Yard()
        corners = list(BOARDS[0])
        turned = corners[2:] + corners[:2]
        yard.put("a", turned)
        yard.put("b", turned[::-1])
        self.assertEqual(yard.boards(), [BOARDS[0]] * 2)
        self.assertEqual(turned, corners[2:] + corners[:2])

    def test_what_is_handed_in_is_not_kept(self):
        yard = Yard()
        corners = list(BOARDS[0])
        yard.put("a", corners)
        corners[0] = (9, 9, 9, 1)
        corners.pop()
        self.assertEqual(yard.boards(), BOARDS[:1])

    def test_drop(self):
        yard = yard_of(NAMES)
        self.assertIsNone(yard.drop("board"))
        self.check(yard, ["a", "zz", "back", "abcdefgh", "q"], 7)
        self.assertEqual(yard.boards(), BOARDS[:2] + BOARDS[3:])
        yard.drop("a")
        yard.drop("q")
        self.check(yard, ["zz", "back", "abcdefgh"], 9)

    def test_a_dropped_name_may_be_put_again_at_the_end(self):
        yard = yard_of(NAMES[:3])
        yard.drop("a")
        yard.put("a", list(FLOOR))
        self.check(yard, ["zz", "board", "a"], 5)
        self.assertEqual(yard.boards(), [BOARDS[1], BOARDS[2], FLOOR])

    def test_deeds_taken_back_one_after_the_other(self):
        yard = yard_of(NAMES[:3])
        yard.drop("zz")
        yard.put("zz", list(FLOOR))
        yard.drop("a")
        for names, deeds in (
            (["a", "board", "zz"], 5), (["a", "board"], 4), (["a", "zz", "board"], 3), (["a", "zz"], 2), (["a"], 1),
            ([], 0),
        ):
            self.assertIsNone(yard.back())
            self.check(yard, names, deeds)
            if deeds == 5:
                self.assertEqual(yard.boards(), [BOARDS[0], BOARDS[2], FLOOR])
            if deeds == 3:
                self.assertEqual(yard.boards(), BOARDS[:3])
        self.check_refused(yard, NoDeed, yard.back)

    def test_a_dropping_taken_back_at_its_old_place(self):
        for k, name in enumerate(NAMES):
            yard = yard_of(NAMES)
            yard.drop(name)
            yard.back()
            self.check(yard, NAMES, 6)
            self.assertEqual(yard.boards(), BOARDS)

    def test_taking_back_is_no_deed(self):
        yard = yard_of(NAMES[:2])
        yard.back()
        yard.put("b", list(WALL))
        self.check(yard, ["a", "b"], 2)
        yard.back()
        yard.back()
        self.check(yard, [], 0)

    def test_settle(self):
        yard = yard_of(NAMES[:3])
        self.assertIsNone(yard.settle())
        self.check(yard, NAMES[:3], 0)
        self.check_refused(yard, NoDeed, yard.back)
        yard.drop("a")
        self.check(yard, ["zz", "board"], 1)
        yard.back()
        self.check(yard, NAMES[:3], 0)
        self.check_refused(yard, NoDeed, yard.back)

    def test_no_name(self):
        yard = yard_of(NAMES[:2])
        for name in ("", "A", "abcdefghi", "a b", "zz", "a", 7, None, ["a"]):
            self.check_refused(yard, NoName, yard.put, name, list(FLOOR))
        for name in ("b", "", "A", "aa", 7, None, ["a"]):
            self.check_refused(yard, NoName, yard.drop, name)
            self.check_refused(yard, NoName, yard.place_of, name)
        yard.drop("a")
        self.check_refused(yard, NoName, yard.drop, "a")
        self.check_refused(yard, NoName, yard.place_of, "a")

    def test_no_board(self):
        yard = yard_of(NAMES[:2])
        nine = [(x, x * x, 0, 1) for x in range(9)]
        for corners in ([], [(0, 0, 0, 1)], list(FLOOR)[:2], NO_CORNERS, nine, list(FLOOR) + [(0, 0, 9, 1)],
                        [FLOOR[0], FLOOR[2], FLOOR[1], FLOOR[3]]):
            self.check_refused(yard, NoBoard, yard.put, "b", corners)
        yard.put("b", nine[:8])

    def test_too_many(self):
        yard = yard_of(NAMES)
        self.check_refused(yard, TooMany, yard.put, "b", list(FLOOR))
        yard.drop("a")
        yard.put("b", list(FLOOR))
        self.check_refused(yard, TooMany, yard.put, "a", list(FLOOR))
        yard.back()
        yard.put("a", list(FLOOR))
        self.check(yard, NAMES[1:] + ["a"], 8)

    def test_the_order_of_refusals(self):
        yard = yard_of(NAMES)
        self.check_refused(yard, NoName, yard.put, "a", NO_CORNERS)
        self.check_refused(yard, NoName, yard.put, "A", NO_CORNERS)
        self.check_refused(yard, NoBoard, yard.put, "b", NO_CORNERS)
        self.check_refused(yard, TooMany, yard.put, "b", list(FLOOR))
        self.check_refused(yard, NoName, yard.put, "zz", list(FLOOR))

    def test_the_tree(self):
        yard = yard_of(["b", "a"], [WALL, FLOOR])
        self.assertEqual(yard.tree(), tree_of([(0, WALL), (1, FLOOR)]))
        yard.drop("b")
        yard.put("b", list(WALL))
        self.assertEqual(yard.tree(), tree_of([(0, FLOOR), (1, WALL)]))

    def test_two_yards_share_nothing(self):
        one, other = yard_of(NAMES[:3]), Yard()
        self.check(other, [], 0)
        other.put("a", list(WALL))
        one.drop("a")
        one.settle()
        self.check(other, ["a"], 1)
        self.check(one, ["zz", "board"], 0)
        self.assertEqual(other.boards(), [WALL])

    def test_many_figures(self):
        yard = Yard()
        board = made_board([(MANY, 0, 0, 1), (0, MANY, 0, 1), (0, 0, MANY, 1)])
        yard.put("a", list(board))
        self.assertEqual(yard.boards(), [board])

    def test_drawn_deeds(self):
        """Beside a yard all states that it had since it was settled."""
        draw = random.Random(31)
        yard, states = Yard(), [[]]
        for _ in range(600):
            now = states[-1]
            choice = draw.random()
            name = draw.choice(NAMES + ["other"])
            if choice < 0.5:
                board = drawn_board(draw, 2)
                if name in [mine for mine, _ in now] or len(now) == 6:
                    kind = NoName if name in [mine for mine, _ in now] else TooMany
                    self.check_refused(yard, kind, yard.put, name, list(board))
                else:
                    yard.put(name, list(board))
                    states.append(now + [(name, board)])
            elif choice < 0.75:
                if name in [mine for mine, _ in now]:
                    yard.drop(name)
                    states.append([one for one in now if one[0] != name])
                else:
                    self.check_refused(yard, NoName, yard.drop, name)
            elif choice < 0.98:
                if len(states) > 1:
                    yard.back()
                    states.pop()
                else:
                    self.check_refused(yard, NoDeed, yard.back)
            else:
                yard.settle()
                states = states[-1:]
            self.assertEqual(list(zip(yard.names(), yard.boards())), states[-1])
            self.assertEqual(yard.deeds(), len(states) - 1)


if __name__ == "__main__":
    unittest.main()
