import copy
import random
import unittest

from plain import (
    BLUNT, EAST, MIGHTY, NORTH, ONE_WAY_HALLS, ROOMS, ROOMS_STAND, SMALL_HALLS, WEAK, WEST, plain_dead,
    plain_no_return, shelf_hall, some_goals,
)
from slidehall.deadends import dead, no_return
from slidehall.errors import TooMany
from slidehall.pushing import all_pushes, pushed
from slidehall.spreading import come_to

# The dull one is pushed east by the strong one and never comes back.
LANE, LANE_STAND = (5, 1, (), (MIGHTY, BLUNT)), ((0, 0), (2, 0))
VAST, VAST_STAND = (9, 9, (), (MIGHTY,) * 12), tuple((x, y) for x in range(3) for y in range(4))
TWO_THOUSAND, TWO_THOUSAND_STAND = shelf_hall((5, 5, 5, 8, 2))


def with_dull_at(*xs):
    return sorted(((x, 0), (dull, 0)) for dull in xs for x in range(dull))


class TestDead(unittest.TestCase):
    def test_without_goals(self):
        self.assertEqual(dead(LANE, LANE_STAND, []), [])
        self.assertEqual(dead((2, 2, (), ()), (), []), [])
        for hall, stand in SMALL_HALLS[:40]:
            self.assertEqual(dead(hall, stand, []), [])

    def test_goals_met_nowhere(self):
        for goals in ([(1, (1, 0))], [(0, (4, 0))], [(0, (2, 0)), (0, (3, 0))], [(1, (4, 0)), (1, (3, 0))]):
            self.assertEqual(dead(LANE, LANE_STAND, goals), come_to(LANE, LANE_STAND))
        hall = (3, 1, ((1, 0),), (WEAK,))
        self.assertEqual(dead(hall, ((0, 0),), [(0, (1, 0))]), [((0, 0),)])
        self.assertEqual(dead(hall, ((0, 0),), [(0, (2, 0))]), [((0, 0),)])

    def test_goals_met_at_once(self):
        # One comes away from where they are met to where they never are.
        self.assertEqual(dead(LANE, LANE_STAND, [(1, (2, 0))]), with_dull_at(3, 4))
        self.assertEqual(dead(LANE, LANE_STAND, [(0, (0, 0))]), [])

    def test_goals_met_on_the_way(self):
        self.assertEqual(dead(LANE, LANE_STAND, [(1, (3, 0))]), with_dull_at(4))
        self.assertEqual(dead(LANE, LANE_STAND, [(1, (4, 0))]), [])
        self.assertEqual(dead(LANE, LANE_STAND, [(1, (3, 0)), (0, (0, 0))]), with_dull_at(4))
        self.assertEqual(dead(LANE, LANE_STAND, [(0, (3, 0))]), [])
        self.assertEqual(dead(LANE, LANE_STAND, [(0, (2, 0)), (1, (3, 0))]), with_dull_at(4))

    def test_dull_one_in_a_corner(self):
        # From the south wall it is never pushed north, since nobody comes to be south of it.
        hall, stand = (3, 3, (), (MIGHTY, BLUNT)), ((0, 0), (1, 1))
        lost = [end for end in come_to(hall, stand) if end[1] != (1, 1)]
        self.assertEqual(dead(hall, stand, [(1, (1, 1))]), lost)
        told = dead(hall, stand, [(1, (0, 0))])
        self.assertEqual(told, [end for end in come_to(hall, stand) if 2 in end[1]])

    def test_no_strong_or_no_dull_ones(self):
        # All pushes can be made good there, so from each stand all are come to.
        chance = random.Random(3)
        for hall, stand in SMALL_HALLS[:40]:
            for strong in (0, 1):
                made = hall[:3] + (tuple(kind[:3] + (strong,) for kind in hall[3]),)
                goals = some_goals(chance, hall, stand, 1)
                try:
                    told = dead(made, stand, goals)
                    self.assertIn(told, ([], come_to(made, stand)))
                except TooMany:
                    self.assertRaises(TooMany, come_to, made, stand)

    def test_by_the_words(self):
        chance = random.Random(8)
        some = 0
        for hall, stand in ONE_WAY_HALLS + SMALL_HALLS[::5]:
            for many in (1, 1, 2):
                goals = some_goals(chance, hall, stand, many)
                told = dead(hall, stand, goals)
                self.assertEqual(told, plain_dead(hall, stand, goals))
                some += told not in ([], come_to(hall, stand))
        self.assertGreater(some, 30)


class TestNoReturn(unittest.TestCase):
    def test_pushed_to_where_it_stays(self):
        self.assertEqual(no_return(LANE, LANE_STAND), [(0, EAST, 2), (0, EAST, 3)])
        self.assertEqual(no_return(LANE, ((1, 0), (2, 0))), [(0, EAST, 1), (0, EAST, 2)])
        self.assertEqual(no_return(LANE, ((0, 0), (4, 0))), [])

    def test_made_good_by_another_strong_one(self):
        hall = (6, 1, (), (MIGHTY, BLUNT, MIGHTY))
        # Against the wall the eastern one comes no more between, but it can still push west from its place.
        self.assertEqual(no_return(hall, ((0, 0), (1, 0), (5, 0))), [])
        hall = (6, 1, (), (MIGHTY, BLUNT, WEAK))
        self.assertEqual(no_return(hall, ((0, 0), (1, 0), (5, 0))), [(0, EAST, many) for many in (1, 2, 3)])

    def test_made_good_all_round(self):
        # In the midst of a wide hall the strong one goes round and pushes it back.
        hall = (5, 5, (), (MIGHTY, BLUNT))
        self.assertEqual(no_return(hall, ((1, 2), (2, 2))), [(0, EAST, 2)])
        self.assertEqual(no_return(hall, ((2, 0), (2, 2))), [(0, NORTH, 3)])

    def test_no_trolley_is_strong(self):
        for hall, stand in SMALL_HALLS:
            weak = hall[:3] + (tuple(kind[:3] + (min(kind[3], 0),) for kind in hall[3]),)
            self.assertEqual(no_return(weak, stand), [])

    def test_no_trolley_is_dull(self):
        some = 0
        for hall, stand in SMALL_HALLS:
            bright = hall[:3] + (tuple(kind[:3] + (abs(kind[3]),) for kind in hall[3]),)
            try:
                self.assertEqual(no_return(bright, stand), [])
                some += 1
            except TooMany:
                self.assertRaises(TooMany, come_to, bright, stand)
        self.assertGreater(some, 60)

    def test_no_trolleys(self):
        self.assertEqual(no_return((3, 3, (), ()), ()), [])

    def test_by_the_words(self):
        some = 0
        for hall, stand in ONE_WAY_HALLS + SMALL_HALLS[1::5]:
            told = no_return(hall, stand)
            self.assertEqual(told, plain_no_return(hall, stand))
            some += told not in ([], all_pushes(hall, stand))
        self.assertGreater(some, 20)

    def test_pushes_of_several_trolleys_rise(self):
        hall, stand = (7, 2, (), (MIGHTY, BLUNT, (1, 1, "row", 1), BLUNT)), ((5, 0), (4, 0), (1, 1), (2, 1))
        told = no_return(hall, stand)
        self.assertEqual({push[:2] for push in told}, {(0, WEST), (2, EAST)})
        self.assertEqual(told, sorted(told))
        self.assertTrue(all(stand not in come_to(hall, pushed(hall, stand, push)) for push in told))


class TestTooMany(unittest.TestCase):
    def test_refused(self):
        for hall, stand in ((VAST, VAST_STAND), (ROOMS, ROOMS_STAND)):
            for goals in ([], [(0, stand[0])], [(0, (8, 8))], [(0, (0, 0)), (0, (1, 0))]):
                self.assertRaises(TooMany, dead, hall, stand, goals)
            self.assertRaises(TooMany, no_return, hall, stand)

    def test_two_thousand(self):
        self.assertEqual(dead(TWO_THOUSAND, TWO_THOUSAND_STAND, [(0, (8, 0))]), [])
        self.assertEqual(len(dead(TWO_THOUSAND, TWO_THOUSAND_STAND, [(0, (8, 1))])), 2000)
        self.assertEqual(no_return(TWO_THOUSAND, TWO_THOUSAND_STAND), [])

    def test_counted_from_the_stand(self):
        # What can't be come to any more isn't counted.
        hall = (9, 2, (), (MIGHTY, (1, 2, "row", -1), WEAK, WEAK))
        stand = ((7, 0), (8, 0), (0, 0), (1, 0))
        closed = (9, 2, ((6, 0), (6, 1)), hall[3])
        self.assertRaises(TooMany, no_return, hall, stand)
        self.assertEqual(no_return(closed, stand), [])


class TestTold(unittest.TestCase):
    def test_nothing_handed_in_is_changed(self):
        goals = [(1, (3, 0)), (0, (0, 0))]
        before = copy.deepcopy((LANE, LANE_STAND, goals))
        dead(LANE, LANE_STAND, goals)
        no_return(LANE, LANE_STAND)
        self.assertEqual((LANE, LANE_STAND, goals), before)

    def test_told_anew(self):
        for asked in (lambda: dead(LANE, LANE_STAND, [(1, (3, 0))]), lambda: no_return(LANE, LANE_STAND)):
            told = asked()
            self.assertIsInstance(told, list)
            before = list(told)
            told.append("more")
            self.assertEqual(asked(), before)
            told.clear()
            self.assertEqual(asked(), before)


if __name__ == "__main__":
    unittest.main()
