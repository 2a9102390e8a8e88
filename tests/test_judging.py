import copy
import random
import unittest

from plain import (
    BLUNT, EAST, MIGHTY, NORTH, ROOMS, ROOMS_STAND, SMALL_HALLS, WEAK, WEST, plain_layers, plain_stand_pairs,
    plain_words, shelf_hall, walled,
)
from slidehall.errors import TooMany
from slidehall.judging import judged, meeting
from slidehall.rows import played

# Neither gets past the other, though nothing that is kept says so.
LANE, LANE_STAND, LANE_SWAPPED = (4, 1, (), (WEAK, WEAK)), ((0, 0), (1, 0)), ((1, 0), (0, 0))
LANE_ALL = [((0, 0), (1, 0)), ((0, 0), (2, 0)), ((0, 0), (3, 0)), ((1, 0), (2, 0)), ((1, 0), (3, 0)), ((2, 0), (3, 0))]
# By 3 pushes just 2,000 stands are come to, by 4 more.
JUST_ENOUGH, JUST_ENOUGH_STAND = shelf_hall((4, 4, 5, 5, 6, 9))
# By 3 pushes 2,001 stands are come to.
ONE_TOO_MANY, ONE_TOO_MANY_STAND = shelf_hall((5, 5, 7, 7, 9))


class TestJudged(unittest.TestCase):
    def test_deep_nought(self):
        self.assertEqual(judged(LANE, LANE_STAND, LANE_STAND, 0), ("row", []))
        self.assertEqual(judged(LANE, LANE_STAND, ((0, 0), (2, 0)), 0), ("open", 1))
        self.assertEqual(judged(LANE, LANE_STAND, LANE_SWAPPED, 0), ("open", 1))
        hall = (2, 1, (), (BLUNT, BLUNT))
        self.assertEqual(judged(hall, ((0, 0), (1, 0)), ((1, 0), (0, 0)), 0), ("closed", [((0, 0), (1, 0))]))
        hall = (3, 1, ((1, 0),), (WEAK,))
        self.assertEqual(judged(hall, ((0, 0),), ((2, 0),), 0), ("kept", "sides"))
        self.assertEqual(judged((1, 1, (), ()), (), (), 0), ("row", []))

    def test_other_is_one_itself(self):
        for deep in (0, 1, 5, 10 ** 30):
            self.assertEqual(judged(LANE, LANE_STAND, LANE_STAND, deep), ("row", []))
        self.assertEqual(meeting(LANE, LANE_STAND, LANE_STAND), ("row", []))

    def test_row(self):
        other = ((2, 0), (3, 0))
        self.assertEqual(judged(LANE, LANE_STAND, other, 1), ("open", 3))
        for deep in (2, 3, 300):
            self.assertEqual(judged(LANE, LANE_STAND, other, deep), ("row", [(1, EAST, 2), (0, EAST, 2)]))
        self.assertEqual(meeting(LANE, LANE_STAND, other), ("row", [(1, EAST, 2), (0, EAST, 2)]))

    def test_row_of_the_fewest_pushes(self):
        # The way round takes more steps, but fewer pushes.
        hall = (4, 6, walled(["....", ".##.", ".##.", ".#..", "...#", "..##"]), (WEAK,))
        told = judged(hall, ((0, 0),), ((3, 3),), 300)
        self.assertEqual(told, ("row", [(0, NORTH, 5), (0, EAST, 3), (0, 3, 2)]))

    def test_kept(self):
        hall = (4, 1, (), ((1, 1, "row", 0),) * 2)
        for deep in (0, 1, 2, 300):
            self.assertEqual(judged(hall, LANE_STAND, LANE_SWAPPED, deep), ("kept", "lines"))
        self.assertEqual(meeting(hall, LANE_STAND, LANE_SWAPPED), ("kept", "lines"))
        hall = (2, 2, (), (WEAK,) * 3)
        self.assertEqual(meeting(hall, ((0, 0), (0, 1), (1, 0)), ((0, 1), (0, 0), (1, 0))), ("kept", "ring"))

    def test_closed(self):
        # Two pushes come to all, so two are just enough, and no layer is left behind them.
        self.assertEqual(judged(LANE, LANE_STAND, LANE_SWAPPED, 1), ("open", 3))
        for deep in (2, 3, 300, 10 ** 30):
            self.assertEqual(judged(LANE, LANE_STAND, LANE_SWAPPED, deep), ("closed", LANE_ALL))
        self.assertEqual(meeting(LANE, LANE_STAND, LANE_SWAPPED), ("closed", LANE_ALL))

    def test_one_way(self):
        hall, one, other = (4, 1, (), (MIGHTY, BLUNT)), ((0, 0), (2, 0)), ((0, 0), (3, 0))
        self.assertEqual(meeting(hall, one, other), ("row", [(0, EAST, 2), (0, WEST, 2)]))
        self.assertEqual(meeting(hall, other, one), ("closed", [((x, 0), (3, 0)) for x in range(3)]))
        self.assertEqual(judged(hall, other, one, 0), ("open", 1))
        self.assertEqual(judged(hall, other, one, 1)[0], "closed")

    def test_by_the_words(self):
        words = {"row": 0, "kept": 0, "closed": 0, "open": 0}
        for hall, one, other in plain_stand_pairs(random.Random(43), SMALL_HALLS[::2]):
            layers = plain_layers(hall, one)
            unlike = plain_words(hall, one, other)
            for deep in range(len(layers) + 2):
                within = sorted(sum(layers[:deep + 1], []))
                told = judged(hall, one, other, deep)
                words[told[0]] += 1
                self.assertEqual(len(told), 2)
                if other in within:
                    self.assertEqual(told[0], "row")
                    self.assertIn(other, layers[len(told[1])])
                    self.assertEqual(played(hall, one, told[1])[-1], other)
                elif unlike:
                    self.assertEqual(told, ("kept", unlike[0]))
                elif len(layers) <= deep + 1:
                    self.assertEqual(told, ("closed", within))
                else:
                    self.assertEqual(told, ("open", len(within)))
            self.assertEqual(meeting(hall, one, other), told)
        self.assertTrue(all(many > 20 for many in words.values()), words)


class TestTooMany(unittest.TestCase):
    NEAR = ((1, 0),) + JUST_ENOUGH_STAND[1:]
    FAR = tuple((1, y) for y in range(6))
    UNLIKE = ((0, 1), (0, 0)) + JUST_ENOUGH_STAND[2:]

    def test_two_thousand_by_deep_pushes(self):
        self.assertEqual(judged(JUST_ENOUGH, JUST_ENOUGH_STAND, self.FAR, 3), ("open", 2000))
        self.assertEqual(judged(JUST_ENOUGH, JUST_ENOUGH_STAND, self.NEAR, 3), ("row", [(0, EAST, 1)]))
        self.assertEqual(judged(JUST_ENOUGH, JUST_ENOUGH_STAND, self.FAR, 2), ("open", 323))

    def test_refused_whatever_else_it_would_tell(self):
        for other in (JUST_ENOUGH_STAND, self.NEAR, self.FAR):
            for deep in (4, 10 ** 30):
                self.assertRaises(TooMany, judged, JUST_ENOUGH, JUST_ENOUGH_STAND, other, deep)
            self.assertRaises(TooMany, meeting, JUST_ENOUGH, JUST_ENOUGH_STAND, other)
        self.assertRaises(TooMany, judged, ONE_TOO_MANY, ONE_TOO_MANY_STAND, ONE_TOO_MANY_STAND, 3)
        self.assertEqual(judged(ONE_TOO_MANY, ONE_TOO_MANY_STAND, ONE_TOO_MANY_STAND, 2), ("row", []))

    def test_nothing_is_gone_through_where_unlike(self):
        for deep in (0, 3, 4, 10 ** 30):
            self.assertEqual(judged(JUST_ENOUGH, JUST_ENOUGH_STAND, self.UNLIKE, deep), ("kept", "sides"))
        self.assertEqual(meeting(JUST_ENOUGH, JUST_ENOUGH_STAND, self.UNLIKE), ("kept", "sides"))
        other = (ROOMS_STAND[2], ROOMS_STAND[1], ROOMS_STAND[0])
        self.assertEqual(meeting(ROOMS, ROOMS_STAND, other), ("kept", "sides"))
        self.assertRaises(TooMany, meeting, ROOMS, ROOMS_STAND, ROOMS_STAND)

    def test_two_thousand_in_all(self):
        hall, stand = shelf_hall((5, 5, 5, 8, 2))
        told = meeting(hall, stand, tuple((1, y) for y in range(5)))
        self.assertEqual(sorted(told[1]), [(n, EAST, 1) for n in range(5)])


class TestTold(unittest.TestCase):
    def test_nothing_handed_in_is_changed(self):
        before = copy.deepcopy((LANE, LANE_STAND, LANE_SWAPPED))
        for deep in range(4):
            judged(LANE, LANE_STAND, LANE_SWAPPED, deep)
        meeting(LANE, LANE_STAND, LANE_SWAPPED)
        self.assertEqual((LANE, LANE_STAND, LANE_SWAPPED), before)

    def test_told_anew(self):
        for other in (LANE_STAND, LANE_SWAPPED, ((2, 0), (3, 0))):
            for asked in (lambda: judged(LANE, LANE_STAND, other, 5), lambda: meeting(LANE, LANE_STAND, other)):
                told = asked()
                before = copy.deepcopy(told)
                told[1].append("more")
                self.assertEqual(asked(), before)


if __name__ == "__main__":
    unittest.main()
