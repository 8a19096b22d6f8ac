import random
import unittest
from fractions import Fraction

from boardsight.desk import Desk
from boardsight.errors import NoBoard, NoDeed, NoFrame, NoName, NoText, NotFree, TooMany
from boardsight.frames import made_frame
from boardsight.orders import order_from
from boardsight.sights import does_hide, is_free
from boardsight.texts import fraction_text, spot_text, yard_text
from boardsight.trees import pieces_of
from boardsight.views import seen_at
from boardsight.ways import stretch_of
from boardsight.yards import Yard
from helper import CROSS, FLOOR, WALL, drawn_board, drawn_place, drawn_spot, refusal_of, sheet

PANE, BACK = sheet(-1, 1, -1, 1, 2), sheet(-1, 1, -1, 1, 4)
# Of the yard with PANE as near and BACK as far; no row changes what stands.
QUESTIONS = {
    "hides near far 0,0,0": "yes",
    "hides far near 0,0,0": "no",
    "hides far near 0,0,9": "yes",
    "hides near near 0,0,0": "no",
    "hides near far 7,0,1/2": "no",
    "order 0,0,0": "order far near",
    "order 0,0,9": "order near far",
    "order 1,1,7/2": "order near far",
    "pieces": "2",
    "seen 0,0,0 -1,-1,1 2,0,0 0,2,0 1/2 1/2": "near",
    "seen 0,0,0 -1,-1,1 2,0,0 0,2,0 1/4 3/4": "near",
    "seen 0,0,0 -1,-1,1 2,0,0 0,2,0 0 1": "-",
    "seen 0,0,9 -1,-1,8 2,0,0 0,2,0 1/2 1/2": "far",
    "seen 0,0,0 -1,-1,1 2,0,0 0,2,0 -7 100/3": "-",
    "seen 9,0,0 8,-1,-1 0,0,2 0,2,0 5/4 1/2": "-",
    "stretch near far -10,0,0 10,0,0": "7/20 13/20",
    "stretch near far 0,0,0 10,0,0": "0 3/10",
    "stretch near far 10,0,0 0,0,0": "7/10 1",
    "stretch near far 0,0,0 1,0,0": "0 1",
    "stretch far near -10,0,0 10,0,0": "never",
    "stretch near near -10,0,0 10,0,9": "never",
}


def row_for(name, board):
    return " ".join(["board", name] + [spot_text(corner) for corner in board])


def desk_with(boards):
    desk = Desk()
    for name, board in boards:
        desk.say(row_for(name, board))
    return desk


def two_boards():
    return desk_with([("near", PANE), ("far", BACK)])


class AnswerTest(unittest.TestCase):
    def test_an_empty_desk(self):
        desk = Desk()
        for row, answer in (
            ("pieces", "0"), ("order 0,0,0", "order"), ("seen 0,0,0 -1,-1,1 2,0,0 0,2,0 1/2 1/2", "-"),
        ):
            self.assertEqual(desk.say(row), answer)

    def test_deeds(self):
        desk = Desk()
        for row, answer in (
            ("board a 0,0,0 0,1,0 1,0,0", "ok"), ("pieces", "1"), ("board b 0,0,1 1,0,1 0,1,1", "ok"), ("pieces", "2"),
            ("order 0,0,5", "order a b"), ("drop a", "ok"), ("order 0,0,5", "order b"), ("back", "ok"),
            ("order 0,0,5", "order a b"), ("drop b", "ok"), ("board b 0,0,-1 1,0,-1 0,1,-1", "ok"),
            ("order 0,0,5", "order b a"), ("back", "ok"), ("back", "ok"), ("back", "ok"), ("order 0,0,5", "order a"),
            ("back", "ok"), ("order 0,0,5", "order"),
        ):
            self.assertEqual(desk.say(row), answer, row)

    def test_questions(self):
        desk = two_boards()
        for _ in range(2):
            for row, answer in QUESTIONS.items():
                self.assertEqual(desk.say(row), answer, row)

    def test_corners_in_any_turn(self):
        desk = Desk()
        self.assertEqual(desk.say("board a 1,1,0 0,1,0 0,0,0 1,0,0"), "ok")
        self.assertEqual(desk.say("board b 1,0,3/2 1,1,3/2 0,1,3/2 0,0,3/2"), "ok")
        self.assertEqual(desk.say("hides b a 1,1,9/4"), "yes")

    def test_a_ring(self):
        desk = desk_with([("up", CROSS[0]), ("down", CROSS[1])])
        told = desk.say("order 0,0,0").split(" ")
        self.assertEqual((told[0], sorted(told[1:])), ("ring", ["down", "up"]))
        self.assertEqual(desk.say("pieces"), "3")

    def test_pieces(self):
        desk = desk_with([("a", FLOOR), ("b", WALL)])
        self.assertEqual(desk.say("pieces"), "3")
        desk.say("drop a")
        self.assertEqual(desk.say("pieces"), "1")

    def test_thirty_figures(self):
        desk = Desk()
        nines = "9" * 30
        self.assertEqual(desk.say("board a 0,0,N 0,1,N 1,0,N".replace("N", nines)), "ok")
        self.assertEqual(desk.say("order 0,0,-" + nines), "order a")
        self.assertEqual(desk.say("seen 0,0,0 -1,-1,1 2,0,0 0,2,0 N/2 1/N".replace("N", nines)), "-")
        self.assertEqual(desk.say("seen 0,0,0 0,0,N 1,0,0 0,1,0 1/N 1/N".replace("N", nines)), "a")

    def test_moments_of_more_than_thirty_figures(self):
        """What is told may have more figures than what is read."""
        desk = two_boards()
        way = ((-10 ** 29, 1, 0, 10 ** 29 - 1), (3, 10 ** 28, 1, 7))
        told = desk.say("stretch near far " + " ".join(map(spot_text, way)))
        found = stretch_of(PANE, BACK, way)
        self.assertEqual(told, " ".join(map(fraction_text, found[1:3])))
        self.assertGreater(len(told), 40)

    def test_two_desks_share_nothing(self):
        one, other = two_boards(), Desk()
        self.assertEqual(other.say("pieces"), "0")
        other.say("board near 0,0,0 0,1,0 1,0,0")
        one.say("drop near")
        self.assertEqual((one.say("order 0,0,9"), other.say("order 0,0,9")), ("order far", "order near"))

    def test_drawn_ones(self):
        """Answers beside those of the functions, on the boards of a yard of the same names."""
        draw = random.Random(51)
        for _ in range(60):
            names = draw.sample(["a", "b", "cd", "order", "zzzzzzzz", "q"], draw.randint(1, 6))
            boards = [drawn_board(draw, draw.choice([1, 3])) for _ in names]
            desk = desk_with(zip(names, boards))
            yard = Yard()
            for name, board in zip(names, boards):
                yard.put(name, list(board))
            spot, goal = drawn_spot(draw), drawn_spot(draw)
            i, j = draw.randrange(len(names)), draw.randrange(len(names))
            self.assertEqual(desk.say("pieces"), str(len(pieces_of(yard.tree()))))
            if not is_free(boards, spot):
                continue
            row = "hides %s %s %s" % (names[i], names[j], spot_text(spot))
            self.assertEqual(desk.say(row), "yes" if does_hide(boards[i], boards[j], spot) else "no")
            found = order_from(boards, spot)
            self.assertEqual(desk.say("order " + spot_text(spot)), " ".join([found[0]] + [names[k] for k in found[1]]))
            self.check_seen(draw, desk, names, boards, spot)
            if spot != goal and is_free(boards, goal):
                row = "stretch %s %s %s %s" % (names[i], names[j], spot_text(spot), spot_text(goal))
                told = stretch_of(boards[i], boards[j], (spot, goal))
                wanted = "never" if told[0] == "never" else " ".join(map(fraction_text, told[1:3]))
                self.assertEqual(desk.say(row), wanted)

    def check_seen(self, draw, desk, names, boards, eye):
        place = drawn_place(draw, 3)
        corner = (eye[0], eye[1], eye[2] + eye[3], eye[3])
        frame = made_frame(eye, corner, (2, 0, 1), (-1, 3, 1))
        number = seen_at(frame, boards, place)
        row = "seen %s %s 2,0,1 -1,3,1 %s %s" % tuple(
            [spot_text(eye), spot_text(corner)] + [str(Fraction(*at)) for at in place])
        self.assertEqual(desk.say(row), "-" if number is None else names[number])


class RefusalTest(unittest.TestCase):
    def refused(self, desk, row, kind):
        """The refusal; the row changed nothing."""
        before = self.told_by(desk)
        refusal = refusal_of(desk.say, row)
        self.assertIsInstance(refusal, kind, row)
        self.assertEqual(self.told_by(desk), before)
        return refusal

    def told_by(self, desk):
        return [desk.say("pieces"), desk.say("order 91,92,93/7")] + [yard_text(desk.yard), desk.yard.deeds()]

    def check_no_text(self, desk, row):
        self.assertEqual(self.refused(desk, row, NoText).row, 0)

    def test_no_text(self):
        desk = two_boards()
        for row in (None, True, 7, [], ["back"], ("drop", "near"), {}, b"back"):
            self.check_no_text(desk, row)

    def test_first_words_and_counts(self):
        desk = two_boards()
        rows = ["", " ", "  ", "Back", "back ", " back", "back\n", "\nback", "back\t", "backs", "back near",
                "back back", "drop", "drop ", "drop  near", "drop near far", "drop near ", "board", "board a",
                "board a ", "board  a 0,0,0 0,1,0 1,0,0", "board a 0,0,0  0,1,0 1,0,0", "board a 0,0,0 0,1,0 1,0,0 ",
                "pieces near",
                "pieces ", "piece", "order", "order ", "order near", "order 0,0,0 0,0,0", "order  0,0,0",
                "order 0,0,0 ", "hides", "hides near far", "hides near 0,0,0", "hides near far 0,0,0 0,0,0",
                "hides  near far 0,0,0",
                "seen 0,0,0 -1,-1,1 2,0,0 0,2,0 1/2", "seen 0,0,0 -1,-1,1 2,0,0 0,2,0 1/2 1/2 1/2", "seen",
                "stretch near far 0,0,0", "stretch near far 0,0,0 1,0,0 2,0,0", "stretch near 0,0,0 1,0,0", "stretch",
                "settle", "names", "boards", "tree", "deeds", "tiles", "walk", "help", "-", "board near\nback",
                "back\nback", "order 0,0,0\n"]
        for row in rows:
            self.check_no_text(desk, row)

    def test_words_that_are_not_so_written(self):
        desk = two_boards()
        rows = {
            "board X 0,0,0 0,1,0 1,0,0": self.wrong_names(), "board a 0,0,0 0,1,0 X": self.wrong_spots(),
            "board a X": self.wrong_spots(), "drop X": self.wrong_names(), "hides X far 0,0,0": self.wrong_names(),
            "hides near X 0,0,0": self.wrong_names(), "hides near far X": self.wrong_spots(),
            "order X": self.wrong_spots(),
            "seen X -1,-1,1 2,0,0 0,2,0 1/2 1/2": self.wrong_spots(),
            "seen 0,0,0 X 2,0,0 0,2,0 1/2 1/2": self.wrong_spots(),
            "seen 0,0,0 -1,-1,1 X 0,2,0 1/2 1/2": self.wrong_spots() + ["1,0,0/2"],
            "seen 0,0,0 -1,-1,1 2,0,0 X 1/2 1/2": self.wrong_spots() + ["0,1,0/3"],
            "seen 0,0,0 -1,-1,1 2,0,0 0,2,0 X 1/2": self.wrong_fractions(),
            "seen 0,0,0 -1,-1,1 2,0,0 0,2,0 1/2 X": self.wrong_fractions(),
            "stretch X far 0,0,0 1,0,0": self.wrong_names(), "stretch near X 0,0,0 1,0,0": self.wrong_names(),
            "stretch near far X 1,0,0": self.wrong_spots(), "stretch near far 0,0,0 X": self.wrong_spots(),
        }
        for row, words in rows.items():
            for word in words:
                self.check_no_text(desk, row.replace("X", word))

    def wrong_names(self):
        return ["", "A", "a1", "abcdefghi", "-", "1", "0,0,0", "a,b"]

    def wrong_spots(self):
        return ["", "1,2", "1,2,3,4", "01,2,3", "-0,2,3", "+1,2,3", "1,2,3/1", "1,2,3/0", "1,2,3/-2", "2,4,6/2",
                "1,2,a", "near", "1,2,3/", "1/2", "9" * 31 + ",0,0", "0,0,1/" + "9" * 31]

    def wrong_fractions(self):
        return ["", "a", "01", "-0", "+1", "1/1", "1/0", "0/2", "2/4", "1/-2", "-1/-2", "1/02", "1/", "/2", "1/2/3",
                "0.5", "1,2", "1,2,3", "9" * 31, "1/" + "9" * 31]

    def test_two_like_spots_of_a_way(self):
        desk = two_boards()
        for row in ("stretch near far 1,0,0 1,0,0", "stretch near other 1,2,3/2 1,2,3/2",
                    "stretch other near 5,5,2 5,5,2"):
            self.check_no_text(desk, row)

    def test_no_name(self):
        desk = two_boards()
        for row in ("drop other", "hides other far 0,0,0", "hides near other 0,0,0", "hides other other 0,0,0",
                    "stretch other far 0,0,0 1,0,0", "stretch near other 0,0,0 1,0,0", "board near 0,0,0 0,1,0 1,0,0",
                    "board far 0,0,0"):
            self.refused(desk, row, NoName)
        desk.say("drop near")
        for row in ("drop near", "hides near far 0,0,0", "hides far near 0,0,0"):
            self.refused(desk, row, NoName)
        desk.say("board near 0,0,0 0,1,0 1,0,0")

    def test_no_text_ahead_of_no_name(self):
        desk = two_boards()
        for row in ("board near 0,0,0 0,1,0 01,0,0", "board near", "hides other far 0,0", "hides other A 0,0,0",
                    "stretch other far 0,0,0 +1,0,0", "stretch other far 0,0,0", "drop other other"):
            self.check_no_text(desk, row)

    def test_no_name_ahead_of_what_the_functions_refuse(self):
        desk = two_boards()
        for row in ("board near 0,0,0 1,0,0 2,0,0", "board far 0,0,0", "hides other far 5,5,4",
                    "hides near other 5,5,2", "stretch other far 5,5,4 0,0,0", "stretch near other 0,0,0 5,5,2"):
            self.refused(desk, row, NoName)
        for name in ("a", "b", "c", "d"):
            desk.say("board %s 0,0,0 0,1,0 1,0,0" % name)
        self.refused(desk, "board near 0,0,0 0,1,0 1,0,0", NoName)

    def test_no_board_and_too_many(self):
        desk = two_boards()
        for row in ("board a 0,0,0", "board a 0,0,0 1,0,0", "board a 0,0,0 1,0,0 2,0,0",
                    "board a 0,0,0 1,0,0 1,1,0 0,1,1"):
            self.refused(desk, row, NoBoard)
        for name in ("a", "b", "c", "d"):
            desk.say("board %s 0,0,0 0,1,0 1,0,0" % name)
        self.refused(desk, "board e 0,0,0 0,1,0 1,0,0", TooMany)
        self.refused(desk, "board e 0,0,0 0,1,0 0,2,0", NoBoard)
        desk.say("drop near")
        self.assertEqual(desk.say("board e 0,0,0 0,1,0 1,0,0"), "ok")

    def test_no_deed(self):
        desk = Desk()
        self.refused(desk, "back", NoDeed)
        desk.say("board a 0,0,0 0,1,0 1,0,0")
        desk.say("back")
        self.refused(desk, "back", NoDeed)

    def test_not_free(self):
        desk = two_boards()
        for row, number in (
            ("hides near far 5,5,2", 0), ("hides near far 5,5,4", 1), ("hides far near 5,5,2", 1), ("order 5,5,4", 1),
            ("order 5,5,2", 0), ("seen 5,5,4 4,4,5 2,0,0 0,2,0 1/2 1/2", 1), ("stretch near far 5,5,2 5,5,4", 0),
            ("stretch near far 5,5,4 5,5,2", 1), ("stretch near far 0,0,0 5,5,4", 1),
            ("stretch far near 0,0,0 5,5,4", 0),
        ):
            self.assertEqual(self.refused(desk, row, NotFree).board, number, row)

    def test_no_frame(self):
        desk = two_boards()
        for row in ("seen 0,0,0 -1,-1,1 0,0,0 0,2,0 1/2 1/2", "seen 0,0,0 -1,-1,1 2,0,0 0,0,0 1/2 1/2",
                    "seen 0,0,0 -1,-1,1 2,0,0 -4,0,0 1/2 1/2", "seen 0,0,0 -1,-1,0 2,0,0 0,2,0 1/2 1/2"):
            self.refused(desk, row, NoFrame)

    def test_no_frame_ahead_of_not_free(self):
        desk = two_boards()
        self.refused(desk, "seen 5,5,2 -1,-1,2 2,0,0 0,2,0 1/2 1/2", NoFrame)
        self.refused(desk, "seen 5,5,4 -1,-1,1 2,0,0 4,0,0 1/2 1/2", NoFrame)
        self.check_no_text(desk, "seen 5,5,4 -1,-1,1 2,0,0 4,0,0 1/2 2/2")

    def test_long_rows(self):
        desk = two_boards()
        self.refused(desk, "board a" + " 0,0,0" * 1300, NoBoard)
        self.check_no_text(desk, "order " + "1" * 7000)
        self.check_no_text(desk, " " * 7000)


if __name__ == "__main__":
    unittest.main()
