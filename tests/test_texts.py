import random
import sys
import unittest
from fractions import Fraction

from boardsight.boards import made_board
from boardsight.errors import NoDeed, NoText
from boardsight.spots import made_spot
from boardsight.texts import fraction_text, read_spot, read_yard, spot_text, yard_text
from boardsight.yards import Yard
from helper import FLOOR, MANY, WALL, as_fraction, drawn_board, drawn_spot, refusal_of, refused_with, told_twice

THIRTY = 10 ** 30 - 1
FLAT = "board a 0,0,0 0,1,0 1,0,0"

WRONG_NUMBERS = [
    "", "-", "+1", "+0", "00", "01", "-01", "-0", "--1", "1-", "-+1", " 1", "1 ", "1.0", "1e3", "0x1", "a", "1_0",
    "\u0661", "\u00b2", "9" * 31, "-" + "9" * 31, "0" * 30, "1/1", "None",
]


class WriteTest(unittest.TestCase):
    def test_spots(self):
        for spot, text in (
            ((0, 0, 0, 1), "0,0,0"), ((1, -2, 30, 1), "1,-2,30"), ((1, -2, 30, 7), "1,-2,30/7"),
            ((0, 0, 1, 2), "0,0,1/2"),
            ((-10, 100, -1000, 1), "-10,100,-1000"), ((THIRTY, -THIRTY, 0, 10), "9" * 30 + ",-" + "9" * 30 + ",0/10"),
        ):
            self.assertEqual(told_twice(self, spot_text, spot), text)

    def test_fractions(self):
        for one, text in (
            ((0, 1), "0"), ((7, 1), "7"), ((-7, 1), "-7"), ((1, 2), "1/2"), ((-10, 3), "-10/3"), ((1, 100), "1/100"),
            ((10 ** 64, 1), "1" + "0" * 64), ((10 ** 64 - 1, 10 ** 64), "9" * 64 + "/1" + "0" * 64),
            ((-10 ** 128, 1), "-1" + "0" * 128), ((10 ** 128 - 1, 1), "9" * 128),
        ):
            self.assertEqual(told_twice(self, fraction_text, one), text)

    def test_more_figures_than_python_writes(self):
        draw = random.Random(41)
        limit = sys.get_int_max_str_digits()
        for figures in (31, 63, 64, 65, 127, 128, 129, 2000, 4299, 4300, 4301, 9000, 30001):
            number = draw.randint(10 ** (figures - 1), 10 ** figures - 1)
            told = [fraction_text((number, 1)), fraction_text((-number, number + 1)),
                    spot_text((number, -number, 0, 1))]
            sys.set_int_max_str_digits(0)
            text = str(number)
            wanted = [text, "-" + text + "/" + str(number + 1), text + ",-" + text + ",0"]
            sys.set_int_max_str_digits(limit)
            self.assertEqual(told, wanted)

    def test_a_yard(self):
        yard = Yard()
        self.assertEqual(yard_text(yard), "")
        yard.put("b", list(WALL))
        self.assertEqual(yard_text(yard), "board b 0,-4,-4 0,-4,4 0,4,4 0,4,-4")
        yard.put("a", [made_spot(1, 0, 0, 2), made_spot(0, 0, 0), made_spot(0, 1, 0, 3)])
        self.assertEqual(yard_text(yard), "board b 0,-4,-4 0,-4,4 0,4,4 0,4,-4\nboard a 0,0,0 0,1,0/3 1,0,0/2")
        self.assertEqual((yard.names(), yard.deeds()), (["b", "a"], 2))
        yard.drop("b")
        self.assertEqual(yard_text(yard), "board a 0,0,0 0,1,0/3 1,0,0/2")

    def test_a_yard_with_many_figures(self):
        yard = Yard()
        yard.put("a", [(MANY, 0, 0, 1), (0, MANY, 0, 1), (0, 0, MANY, 1)])
        self.assertEqual(yard_text(yard), "board a 0,0,{0} 0,{0},0 {0},0,0".format("9" * 2000))


class ReadSpotTest(unittest.TestCase):
    def check_refused(self, text):
        refusal = refusal_of(read_spot, text)
        self.assertIsInstance(refusal, NoText, text)
        self.assertEqual(refusal.row, 0)

    def test_known_ones(self):
        for text, spot in (
            ("0,0,0", (0, 0, 0, 1)), ("1,-2,30", (1, -2, 30, 1)), ("1,-2,30/7", (1, -2, 30, 7)),
            ("2,4,6/3", (2, 4, 6, 3)), ("2,4,6", (2, 4, 6, 1)), ("0,0,1/2", (0, 0, 1, 2)),
            ("1,0,0/" + "9" * 30, (1, 0, 0, THIRTY)),
            ("9" * 30 + ",-" + "9" * 30 + ",0/10", (THIRTY, -THIRTY, 0, 10)),
        ):
            self.assertEqual(told_twice(self, read_spot, text), spot)

    def test_drawn_ones(self):
        draw = random.Random(42)
        for _ in range(300):
            spot = drawn_spot(draw, draw.choice([1, 9, THIRTY // 2]), draw.choice([1, 3, THIRTY]))
            self.assertEqual(read_spot(spot_text(spot)), spot)

    def test_numbers(self):
        for number in WRONG_NUMBERS:
            for text in ("%s,2,3", "1,%s,3", "1,2,%s", "%s,3,5/7", "3,5,%s/7", "1,2,3/%s"):
                self.check_refused(text.replace("%s", number))

    def test_w(self):
        for text in ("1,2,3/1", "1,2,3/0", "1,2,3/-1", "1,2,3/-2", "1,2,3/02", "1,2,3/+2", "1,2,3/", "/2", "1,2,3//2",
                     "1,2,3/2/2", "1/2,2,3", "1,2/3,3", "1,2,3 /2", "1,2,3/ 2"):
            self.check_refused(text)

    def test_lowest_terms(self):
        for text in ("2,4,6/2", "0,0,0/2", "0,0,2/2", "6,9,12/3", "-2,4,-6/4", "10,20,30/5", "0,0,0/" + "9" * 30):
            self.check_refused(text)

    def test_counts_and_signs(self):
        for text in ("", ",", ",,", "1,2", "1,2,3,4", "1,2,3,", ",1,2,3", "1,,3", "1;2;3", "1 2 3", "1, 2,3", " 1,2,3",
                     "1,2,3 ", "1,2,3\n", "\n1,2,3", "(1,2,3)", "x,y,z", "spot"):
            self.check_refused(text)


class ReadYardTest(unittest.TestCase):
    def check_refused(self, text, row):
        refusal = refusal_of(read_yard, text)
        self.assertIsInstance(refusal, NoText, text)
        self.assertEqual(refusal.row, row, text)

    def test_the_empty_text(self):
        yard = read_yard("")
        self.assertIsInstance(yard, Yard)
        self.assertEqual((yard.names(), yard.boards(), yard.deeds()), ([], [], 0))

    def test_what_is_written_is_read_back(self):
        draw = random.Random(43)
        for many in range(7):
            for _ in range(6):
                yard = Yard()
                for name in draw.sample(["a", "b", "cc", "board", "zzzzzzzz", "x", "y"], many):
                    yard.put(name, list(drawn_board(draw, draw.choice([2, 10 ** 28]))))
                text = yard_text(yard)
                again = read_yard(text)
                self.assertEqual((again.names(), again.boards()), (yard.names(), yard.boards()))
                self.assertEqual((again.tree(), yard_text(again)), (yard.tree(), text))
                self.assertEqual(again.deeds(), 0)
                self.assertTrue(refused_with(NoDeed, again.back))

    def test_corners_in_any_turn_and_either_way_round(self):
        corners = ["0,0,0", "0,1,0/3", "1,2,0/2", "1,0,0/2"]
        wanted = made_board([read_spot(corner) for corner in corners])
        for k in range(4):
            for ring in (corners[k:] + corners[:k], (corners[k:] + corners[:k])[::-1]):
                self.assertEqual(read_yard("board a " + " ".join(ring)).boards(), [wanted])

    def test_deeds_from_then_on(self):
        yard = read_yard(FLAT)
        yard.drop("a")
        self.assertEqual((yard.names(), yard.deeds()), ([], 1))
        yard.back()
        self.assertEqual((yard.names(), yard.deeds()), (["a"], 0))
        yard.put("b", list(FLOOR))
        self.assertEqual(read_yard(FLAT).names(), ["a"])

    def test_thirty_figures_and_no_more(self):
        self.assertEqual(read_yard("board a 0,0,0 0,1,0 " + "9" * 30 + ",0,0").boards()[0][-1], (THIRTY, 0, 0, 1))
        self.check_refused("board a 0,0,0 0,1,0 " + "9" * 31 + ",0,0", 0)

    def wrong_rows(self):
        words = ["", " ", "board", "board ", "board b", "board b ", "boards b 0,0,0 0,1,0 1,0,0",
                 "Board b 0,0,0 0,1,0 1,0,0", "b 0,0,0 0,1,0 1,0,0", "drop a", "back", "pieces", "# b",
                 "board  b 0,0,0 0,1,0 1,0,0",
                 "board b  0,0,0 0,1,0 1,0,0", "board b 0,0,0  0,1,0 1,0,0", "board b 0,0,0 0,1,0 1,0,0 ",
                 " board b 0,0,0 0,1,0 1,0,0", "board\tb 0,0,0 0,1,0 1,0,0", "board 0,0,0 0,1,0 1,0,0"]
        names = ["board %s 0,0,0 0,1,0 1,0,0".replace("%s", name) for name in ("B", "b1", "abcdefghi", "b-", "-", "1")]
        spots = ["board b 0,0,0 0,1,0 %s".replace("%s", spot) for spot in (
            "1,0", "1,0,0,0", "01,0,0", "-0,1,0", "+1,0,0", "1,0,0/1", "1,0,0/0", "1,0,0/-2", "2,0,0/2", "x", "1,0,0/",
        )]
        corners = ["board b 0,0,0", "board b 0,0,0 1,0,0", "board b 0,0,0 1,1,1 2,2,2", "board b 0,0,0 0,1,0 0,1,0",
                   "board b 0,0,0 1,0,0 1,1,0 0,1,1", "board b 0,0,0 1,1,0 1,0,0 0,1,0",
                   "board b 0,0,0 1,0,0 2,0,0 2,2,0", "board b " + " ".join("%d,%d,0" % (x, x * x) for x in range(9))]
        return words + names + spots + corners

    def test_wrong_rows(self):
        for row in self.wrong_rows():
            if row != "":
                self.check_refused(row, 0)
            self.check_refused(FLAT + "\n" + row, 1)
            self.check_refused(FLAT + "\n" + row + "\nboard c 0,0,0 0,1,0 1,0,0", 1)
            self.check_refused(FLAT + "\n" + row + "\n" + row, 1)
            self.check_refused(row + "\n" + FLAT, 0)

    def test_eight_corners(self):
        row = "board b " + " ".join("%d,%d,0" % (x, x * x) for x in range(8))
        self.assertEqual(len(read_yard(row).boards()[0]), 8)

    def test_names_told_before(self):
        self.check_refused(FLAT + "\n" + FLAT, 1)
        self.check_refused(FLAT + "\nboard b 0,0,0 0,1,0 1,0,0\n" + FLAT, 2)

    def test_line_ends(self):
        self.check_refused("\n", 0)
        self.check_refused("\n" + FLAT, 0)
        self.check_refused(FLAT + "\n", 1)
        self.check_refused(FLAT + "\n\n", 1)
        self.check_refused(FLAT + "\r\nboard b 0,0,0 0,1,0 1,0,0", 0)

    def test_a_seventh_board(self):
        rows = ["board %s 0,0,0 0,1,0 1,0,0".replace("%s", name) for name in "abcdefgh"]
        self.assertEqual(read_yard("\n".join(rows[:6])).names(), list("abcdef"))
        self.check_refused("\n".join(rows[:7]), 6)
        self.check_refused("\n".join(rows), 6)
        self.check_refused("\n".join(rows[:6] + rows[:1]), 6)
        self.check_refused("\n".join(rows[:6] + [""]), 6)

    def test_the_same_text_read_twice(self):
        one, other = read_yard(FLAT), read_yard(FLAT)
        one.drop("a")
        self.assertEqual(other.names(), ["a"])


class FractionTest(unittest.TestCase):
    def test_drawn_ones(self):
        draw = random.Random(44)
        for _ in range(200):
            number = Fraction(draw.randint(-99, 99), draw.randint(1, 30))
            self.assertEqual(fraction_text(as_fraction(number)), str(number))


if __name__ == "__main__":
    unittest.main()
