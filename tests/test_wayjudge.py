import random
import unittest
from fractions import Fraction

from boardsight.errors import NotFree
from boardsight.planes import turned_about
from boardsight.sightjudge import sight_judged
from boardsight.sights import is_free, sight_of
from boardsight.spots import made_spot
from boardsight.wayjudge import stretch_judged
from boardsight.ways import spot_at, stretch_of
from helper import (
    CROSS, FLOOR, LEFT_FLOOR, RIGHT_FLOOR, WALL, as_fraction, drawn_board, drawn_spot, drawn_way, is_right_stretch,
    number_of, refusal_of, sheet, told_twice,
)

# Along the way the pane hides the back strictly between 7 by 20 and 13 by 20.
PANE, BACK = sheet(-1, 1, -1, 1, 2), sheet(-1, 1, -1, 1, 4)
WAY = ((-10, 0, 0, 1), (10, 0, 0, 1))
LOW, HIGH = (7, 20), (13, 20)
FIRST = ((1, 0, -1, -3), (-1, 0, 2, 1), (1, 0, 4, 1))
LAST = ((-1, 0, -1, -3), (1, 0, 2, 1), (-1, 0, 4, 1))
SIGHT = ((1, 2), (0, 0, 2, 1), (0, 0, 4, 1))
RIGHT = ("stretch", LOW, HIGH, FIRST, LAST, SIGHT)
# From here on it hides it from the very start, or up to the very goal.
OUT = ((0, 0, 0, 1), (10, 0, 0, 1))
OUTSET = (None, (0, 0, 2, 1), (0, 0, 4, 1))
RIGHT_OUT = ("stretch", (0, 1), (3, 10), OUTSET, LAST, ((1, 10), (1, 0, 4, 2), (0, 0, 4, 1)))
BACK_IN = (OUT[1], OUT[0])
RIGHT_IN = ("stretch", (7, 10), (1, 1), LAST, OUTSET, ((9, 10), (1, 0, 4, 2), (0, 0, 4, 1)))


def replaced(told, place, value):
    return told[:place] + (value,) + told[place + 1:]


class JudgeTest(unittest.TestCase):
    def judged(self, told, one=PANE, other=BACK, way=WAY):
        answer = told_twice(self, stretch_judged, one, other, way, told)
        self.assertIs(type(answer), bool)
        self.assertEqual(answer, is_right_stretch(one, other, way, told))
        return answer

    def refuse_all(self, place, values, told=RIGHT, **scene):
        for value in values:
            self.assertFalse(self.judged(replaced(told, place, value), **scene), (place, value))

    def test_right_ones_made_by_hand(self):
        self.assertTrue(self.judged(RIGHT))
        self.assertTrue(self.judged(RIGHT_OUT, way=OUT))
        self.assertTrue(self.judged(RIGHT_IN, way=BACK_IN))

    def test_other_right_touches(self):
        for y in (-1, 0, 1):
            self.assertTrue(self.judged(replaced(RIGHT, 3, (FIRST[0], made_spot(-2, y, 4, 2), (1, y, 4, 1)))))
            self.assertTrue(self.judged(replaced(RIGHT, 4, (LAST[0], made_spot(2, y, 4, 2), (-1, y, 4, 1)))))

    def test_low_or_high_moved(self):
        hair = Fraction(1, 10 ** 40)
        for place, at in ((1, number_of(LOW)), (2, number_of(HIGH))):
            self.refuse_all(place, [as_fraction(moved) for moved in (
                at + hair, at - hair, 0, 1, -1, 2, Fraction(1, 2), 1 - at,
            )])
        self.assertFalse(self.judged(("stretch", HIGH, LOW, LAST, FIRST, SIGHT)))
        self.assertFalse(self.judged(("stretch", HIGH, LOW, FIRST, LAST, SIGHT)))
        self.refuse_all(1, [(1, 100), (-1, 100), (1, 1)], RIGHT_OUT, way=OUT)
        self.refuse_all(2, [(99, 100), (101, 100), (0, 1)], RIGHT_IN, way=BACK_IN)

    def test_planes_that_part_nothing_or_the_wrong_way(self):
        for place, plane in ((3, FIRST[0]), (4, LAST[0])):
            rest = RIGHT[place][1:]
            wrong = [turned_about(plane), (0, 0, 1, 2), (0, 0, -1, -2), (0, 0, 1, 4), (1, 0, 0, 0), (0, 1, 0, 0),
                     (1, 0, 0, -3), (-1, 0, 0, -3), (0, 1, 0, 1), LAST[0], FIRST[0]]
            self.refuse_all(place, [(other,) + rest for other in wrong if other != plane])

    def test_planes_that_the_spot_does_not_lie_on(self):
        """The plane between the boards parts them from all of the way, but bounds nothing."""
        self.refuse_all(3, [((0, 0, 1, 2),) + FIRST[1:], ((0, 0, 1, 3),) + FIRST[1:]])
        other = sheet(-3, 3, -1, 1, 4)
        right = stretch_of(PANE, other, WAY)
        self.assertEqual(right[1:3], ((1, 4), (3, 4)))
        self.assertTrue(self.judged(right, other=other))
        for place, plane in ((3, (1, 0, 0, -1)), (4, (-1, 0, 0, -1))):
            self.refuse_all(place, [(plane,) + right[place][1:]], right, other=other)

    def test_near_or_far_off_its_board(self):
        for place in (3, 4):
            plane, near, far = RIGHT[place]
            x = near[0]
            self.refuse_all(place, [
                (plane, made_spot(x * 11, 0, 18, 10), far), (plane, made_spot(x * 10, 11, 20, 10), far),
                (plane, (2 * x, 0, 1, 1), far), (plane, near, (-2 * x, 0, 5, 1)), (plane, near, (-x, 2, 4, 1)),
                (plane, far, near), (plane, near, near), (plane, far, far), (plane, (-3, 0, 0, 1), far),
            ])

    def test_near_not_between(self):
        for place in (3, 4):
            plane, near, far = RIGHT[place]
            self.refuse_all(place, [
                (plane, near, (-near[0], 1, 4, 1)), (plane, (near[0], 1, 2, 1), far),
                (plane, (0, 0, 2, 1), (0, 0, 4, 1)), (plane, near, (near[0], 0, 4, 1)),
            ])

    def test_near_may_be_the_spot_itself(self):
        way = ((0, 0, 0, 1), (0, 0, 10, 1))
        sight = ((0, 0, 2, 1), (0, 0, 4, 1))
        last = ((0, 0, -1, -2), (0, 0, 2, 1), (1, 1, 4, 1))
        right = ("stretch", (0, 1), (1, 5), (None,) + sight, last, ((1, 10),) + sight)
        self.assertTrue(self.judged(right, way=way))
        self.refuse_all(4, [(last[0], (0, 0, 2, 1), (2, 0, 4, 1)), (last[0], (1, 0, 2, 1), (1, 0, 4, 1)),
                            (last[0], (0, 0, 4, 1), (0, 0, 4, 1))], right, way=way)

    def test_sights_at_the_ends(self):
        self.refuse_all(3, [(None,) + SIGHT[1:], (None,) + FIRST[1:]])
        self.refuse_all(4, [(None,) + SIGHT[1:], (None,) + LAST[1:]])
        near, far = RIGHT_OUT[3][1:]
        for place, told, way in ((3, RIGHT_OUT, OUT), (4, RIGHT_IN, BACK_IN)):
            self.refuse_all(place, [
                (None, far, near), (None, (0, 0, 3, 1), far), (None, near, (1, 0, 4, 1)), (None, (1, 0, 2, 1), far),
                (None, made_spot(1, 0, 4, 2), (1, 1, 4, 1)), (FIRST[0], near, far), (LAST[0], near, far),
            ], told, way=way)
            edge = (None, made_spot(1, 0, 4, 2), (1, 0, 4, 1))
            self.refuse_all(place, [edge], told, way=way)

    def test_sight_at_a_wrong_moment(self):
        for moment in (LOW, HIGH, (0, 1), (1, 1), (-1, 2), (3, 2), (1, 5), (4, 5)):
            self.refuse_all(5, [(moment,) + SIGHT[1:], (moment,) + FIRST[1:], (moment,) + LAST[1:]])
            spot = spot_at(WAY, moment)
            far = (0, 0, 4, 1)
            self.refuse_all(5, [(moment, made_spot(spot[0], 0, 4 * spot[3], 2 * spot[3]), far)])
        self.refuse_all(5, [((9, 20),) + SIGHT[1:], ((1, 2), SIGHT[2], SIGHT[1]), ((1, 2), (0, 0, 3, 1), SIGHT[2])])
        self.assertTrue(self.judged(replaced(RIGHT, 5, ((9, 20), made_spot(-1, 0, 4, 2), (0, 0, 4, 1)))))

    def test_sight_at_the_very_start_or_goal_or_beyond(self):
        """A right line of sight, but from a moment that isn't strictly between low and high."""
        for told, way, moments in ((RIGHT_OUT, OUT, [(0, 1), (-1, 10)]), (RIGHT_IN, BACK_IN, [(1, 1), (11, 10)])):
            for moment in moments:
                x = spot_at(way, moment)
                sight = (moment, made_spot(x[0], 0, 4 * x[3], 2 * x[3]), (0, 0, 4, 1))
                self.assertEqual(sight_judged(PANE, BACK, x, ("hides",) + sight[1:]), True)
                self.refuse_all(5, [sight], told, way=way)

    def test_sight_from_a_spot_that_is_not_free(self):
        """At half the way the spot lies in the other one's plane, where the line is still a line of sight."""
        other = sheet(2, 4, -1, 1, 0)
        way = ((-3, 0, -1, 1), (-3, 0, 1, 1))
        right = stretch_of(WALL, other, way)
        self.assertEqual(right[1:3], ((0, 1), (1, 1)))
        self.assertTrue(self.judged(right, WALL, other, way))
        line = ((1, 2), (0, 0, 0, 1), (3, 0, 0, 1))
        self.assertFalse(self.judged(replaced(right, 5, line), WALL, other, way))

    def test_never(self):
        above, below = (0, 0, 1, 3), (0, 0, -1, -3)
        self.assertTrue(self.judged(("never", above, above), BACK, PANE))
        self.assertTrue(self.judged(("never", (0, 0, 1, 4), (0, 0, 1, 2)), BACK, PANE))
        for told in (("never", below, above), ("never", above, below), ("never", below, below),
                     ("never", (0, 0, 1, 5), above), ("never", above, (0, 0, 1, 1)), ("never", (1, 0, 0, 0), above)):
            self.assertFalse(self.judged(told, BACK, PANE))

    def test_never_where_it_hides(self):
        for told in (("never", FIRST[0], LAST[0]), ("never", FIRST[0], FIRST[0]), ("never", LAST[0], FIRST[0]),
                     ("never", LAST[0], LAST[0])):
            self.assertFalse(self.judged(told))

    def test_never_by_two_planes(self):
        """Both are needed, and part both only at the one moment at which the way crosses the boards' plane."""
        up, down = (0, 0, 1, 0), (0, 0, -1, 0)
        way = ((-9, 0, -1, 1), (9, 0, 2, 1))
        for one, other in ((LEFT_FLOOR, RIGHT_FLOOR), (FLOOR, FLOOR)):
            self.assertTrue(self.judged(("never", up, down), one, other, way))
            for told in (("never", up, up), ("never", down, down), ("never", down, up)):
                self.assertFalse(self.judged(told, one, other, way))
        self.assertEqual(stretch_of(FLOOR, FLOOR, way), ("never", up, down))

    def test_moments_at_which_both_planes_part(self):
        """Between the boards the way is long parted by both planes, at one moment alone, or at none."""
        for z, w, wanted in ((7, 2, True), (3, 1, True), (299, 100, False), (1, 1, False)):
            way = (made_spot(-10 * w, 0, z, w), made_spot(10 * w, 0, z, w))
            self.assertEqual(self.judged(("never", FIRST[0], LAST[0]), way=way), wanted)
        for x, wanted in ((-4, True), (-3, True), (-2, False)):
            way = ((-10, 0, 0, 1), (x, 0, 0, 1))
            self.assertEqual(self.judged(("never", FIRST[0], FIRST[0]), way=way), wanted)

    def test_a_stretch_where_it_never_hides(self):
        self.assertFalse(self.judged(RIGHT, BACK, PANE))
        self.assertFalse(self.judged(RIGHT_OUT, BACK, PANE, OUT))

    def test_the_papers_of_another_scene(self):
        scenes = [(PANE, BACK, WAY), (PANE, BACK, OUT), (PANE, BACK, BACK_IN), (BACK, PANE, WAY),
                  (CROSS[0], CROSS[1], ((-9, 0, 0, 1), (7, 0, 1, 1))), (FLOOR, WALL, ((3, 1, -5, 1), (2, 1, 5, 1)))]
        papers = [stretch_of(*scene) for scene in scenes]
        for k, (one, other, way) in enumerate(scenes):
            for j, told in enumerate(papers):
                self.assertEqual(self.judged(told, one, other, way), k == j)

    def test_drawn_ones(self):
        """Right papers with one thing in them changed."""
        draw = random.Random(14)
        answers = {True: 0, False: 0}
        for _ in range(150):
            reach = draw.choice([1, 2, 3])
            one, other = drawn_board(draw, reach), drawn_board(draw, reach)
            way = drawn_way(draw, [one, other])
            told = stretch_of(one, other, way)
            for _ in range(4):
                answers[self.judged(self.changed(draw, told, one, other), one, other, way)] += 1
        self.assertGreater(min(answers.values()), 20)

    def changed(self, draw, told, one, other):
        if told[0] == "never":
            plane = draw.choice([told[1], told[2], turned_about(told[1]), (0, 0, 1, draw.randint(-2, 2))])
            return replaced(told, draw.choice([1, 2]), plane)
        place = draw.randint(1, 5)
        if place < 3:
            return replaced(told, place, as_fraction(Fraction(draw.randint(0, 8), 8)))
        part = draw.choice([0, 1, 2])
        paper = told[place]
        if part == 0:
            value = as_fraction(Fraction(draw.randint(0, 8), 8)) if place == 5 else draw.choice(
                [None, told[3][0], told[4][0], (0, 0, 1, draw.randint(-2, 2))])
        else:
            value = draw.choice([paper[1], paper[2], one[0], other[0], other[-1], drawn_spot(draw, 2)])
        return replaced(told, place, replaced(paper, part, value))

    def test_drawn_sights(self):
        """The sight from any inner moment that is free will do."""
        draw = random.Random(15)
        tried = 0
        for _ in range(100):
            one, other = drawn_board(draw, 2), drawn_board(draw, 2)
            way = drawn_way(draw, [one, other])
            told = stretch_of(one, other, way)
            if told[0] == "stretch":
                for share in (Fraction(1, 9), Fraction(1, 2), Fraction(8, 9)):
                    low, high = number_of(told[1]), number_of(told[2])
                    t = as_fraction(low + share * (high - low))
                    if is_free([one, other], spot_at(way, t)):
                        sight = sight_of(one, other, spot_at(way, t))
                        self.assertEqual(sight[0], "hides")
                        self.assertTrue(self.judged(replaced(told, 5, (t,) + sight[1:]), one, other, way))
                        tried += 1
        self.assertGreater(tried, 40)

    def test_not_free(self):
        way = ((5, 0, 2, 1), (5, 0, 9, 1))
        for one, other, goal, number in ((PANE, BACK, way[1], 0), (BACK, PANE, way[1], 1)):
            for told in (RIGHT, ("never", FIRST[0], LAST[0])):
                refusal = refusal_of(stretch_judged, one, other, (way[0], goal), told)
                self.assertIsInstance(refusal, NotFree)
                self.assertEqual(refusal.board, number)
                refusal = refusal_of(stretch_judged, one, other, (goal, way[0]), told)
                self.assertIsInstance(refusal, NotFree)
                self.assertEqual(refusal.board, number)


if __name__ == "__main__":
    unittest.main()
