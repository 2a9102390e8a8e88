import copy
import random
import unittest

from plain import (
    BLUNT, EAST, MIGHTY, NORTH, ROOMS, ROOMS_STAND, SMALL_HALLS, SOUTH, WEAK, WEST, paper_is_right, plain_come_to,
    plain_costs, plain_meets, push_cost, shelf_hall, some_goals, sum_of, walled,
)
from slidehall.errors import TooMany
from slidehall.leasts import least
from slidehall.rows import cost_of, played

# To (3, 3) three pushes go round by the north, and five pushes take fewer steps along the stairs.
STAIRS = (4, 6, walled([
    "....",
    ".##.",
    ".##.",
    ".#..",
    "...#",
    "..##",
]), (WEAK,))
STAIRS_STAND = ((0, 0),)
LANE, LANE_STAND = (5, 1, (), (MIGHTY, BLUNT)), ((0, 0), (2, 0))


def maze(chance):
    cells = [(x, y) for x in range(9) for y in range(9)]
    return (9, 9, tuple(sorted(chance.sample(cells[1:], 15))), (WEAK,))


class Case(unittest.TestCase):
    def holds(self, hall, stand, goals, by, told):
        # All that is promised of what is told, but that none costs less than the told row.
        self.assertIsInstance(told, tuple)
        paper = told[-1]
        self.assertIsInstance(paper, list)
        self.assertEqual(paper, sorted(paper))
        self.assertTrue(all(isinstance(pair, tuple) and isinstance(pair[1], tuple) for pair in paper))
        if told[0] == "none":
            self.assertEqual(len(told), 2)
            self.assertTrue(paper_is_right(hall, stand, goals, by, paper, None))
            return
        word, pushes, cost, paper = told
        self.assertEqual(word, "row")
        self.assertIsInstance(pushes, list)
        self.assertIsInstance(cost, tuple)
        end = played(hall, stand, pushes)[-1]
        self.assertTrue(plain_meets(hall, end, goals))
        self.assertEqual(cost, cost_of(pushes, by))
        self.assertTrue(paper_is_right(hall, stand, goals, by, paper, cost))

    def told(self, hall, stand, goals, by):
        told = least(hall, stand, goals, by)
        self.holds(hall, stand, goals, by, told)
        return told


class TestLeast(Case):
    def test_fewest_pushes_and_fewest_steps(self):
        goals = [(0, (3, 3))]
        told = self.told(STAIRS, STAIRS_STAND, goals, "pushes")
        self.assertEqual(told[:3], ("row", [(0, NORTH, 5), (0, EAST, 3), (0, SOUTH, 2)], (3, 10)))
        told = self.told(STAIRS, STAIRS_STAND, goals, "steps")
        self.assertEqual(told[1][0], (0, NORTH, 1))
        self.assertEqual(told[2], (6, 5))

    def test_of_equal_pushes_the_fewest_steps(self):
        # Three pushes go round the wall, however far from it.
        hall = (9, 3, walled([".........", "....#....", "........."]), (WEAK,))
        told = self.told(hall, ((4, 0),), [(0, (4, 2))], "pushes")
        self.assertEqual(told[2], (3, 4))

    def test_of_equal_steps_the_fewest_pushes(self):
        hall = (6, 6, (), (WEAK,))
        told = self.told(hall, ((0, 0),), [(0, (5, 5))], "steps")
        self.assertEqual(told[2], (10, 2))

    def test_met_at_once(self):
        for by in ("pushes", "steps"):
            told = self.told(LANE, LANE_STAND, [(1, (2, 0)), (0, (0, 0))], by)
            self.assertEqual(told[:3], ("row", [], (0, 0)))
            self.assertGreater(len(told[3]), 1)

    def test_goals_of_none(self):
        for hall, stand in ((LANE, LANE_STAND), (STAIRS, STAIRS_STAND), ((2, 2, (), ()), ())):
            for by in ("pushes", "steps"):
                told = self.told(hall, stand, [], by)
                self.assertEqual(told[:3], ("row", [], (0, 0)))
        self.assertEqual(least((1, 1, (), ()), (), [], "steps"), ("row", [], (0, 0), [((), (0, 0))]))

    def test_never_met(self):
        for goals in (
            [(1, (1, 0))], [(0, (4, 0))], [(0, (2, 0)), (1, (2, 0))], [(0, (1, 0)), (0, (2, 0))],
            [(0, (0, 0)), (1, (0, 0))],
        ):
            for by in ("pushes", "steps"):
                told = self.told(LANE, LANE_STAND, goals, by)
                self.assertEqual(told[0], "none")

    def test_goal_on_a_wall(self):
        told = self.told(STAIRS, STAIRS_STAND, [(0, (2, 0))], "steps")
        self.assertEqual(told[0], "none")

    def test_two_goals_for_one_trolley(self):
        hall = (5, 2, (), ((2, 1, "any", 0), WEAK))
        told = self.told(hall, ((0, 0), (4, 0)), [(0, (3, 1)), (0, (2, 1))], "pushes")
        self.assertEqual(told[2], (2, 3))

    def test_others_make_way(self):
        hall = (4, 2, ((0, 1), (1, 1), (3, 1)), ((1, 1, "row", 0), (1, 1, "any", 0)))
        told = self.told(hall, ((0, 0), (1, 0)), [(0, (3, 0))], "pushes")
        self.assertEqual(told[:3], ("row", [(1, EAST, 1), (1, NORTH, 1), (0, EAST, 3)], (3, 5)))

    def test_others_are_pushed_along(self):
        told = self.told(LANE, LANE_STAND, [(1, (4, 0)), (0, (0, 0))], "steps")
        self.assertEqual(told[:3], ("row", [(0, EAST, 3), (0, WEST, 3)], (6, 2)))

    def test_twelve_goals(self):
        hall, stand = shelf_hall((2, 2, 2, 2, 2, 2, 2, 2))
        goals = [(n, (8, n)) for n in range(8)] + [(n, (1, n)) for n in range(4)]
        for by in ("pushes", "steps"):
            told = self.told(hall, stand, goals, by)
            self.assertEqual(told[2], (8, 8))
            self.assertEqual(sorted(told[1]), [(n, EAST, 1) for n in range(8)])

    def test_one_way(self):
        hall, stand = (5, 1, (), (MIGHTY, BLUNT)), ((3, 0), (4, 0))
        self.assertEqual(self.told(hall, stand, [(1, (3, 0))], "steps")[0], "none")
        self.assertEqual(self.told(hall, stand, [(0, (0, 0))], "pushes")[1], [(0, WEST, 3)])

    def test_paper_of_a_lane(self):
        told = self.told((3, 1, (), (WEAK,)), ((1, 0),), [(0, (2, 0))], "steps")
        self.assertEqual(told[1:3], ([(0, EAST, 1)], (1, 1)))
        self.assertEqual([stand for stand, cost in told[3]], [((0, 0),), ((1, 0),), ((2, 0),)])

    def test_none_costs_less(self):
        chance = random.Random(11)
        rows = nones = 0
        for hall, stand in SMALL_HALLS:
            for many in (1, 2, 3):
                goals = some_goals(chance, hall, stand, many)
                for by in ("pushes", "steps"):
                    told = self.told(hall, stand, goals, by)
                    met = [cost for end, cost in plain_costs(hall, stand, by).items() if plain_meets(hall, end, goals)]
                    self.assertEqual(told[0], "row" if met else "none")
                    self.assertEqual([pair[0] for pair in told[-1]], plain_come_to(hall, stand))
                    if met:
                        self.assertEqual(told[2], min(met))
                    rows += bool(met)
                    nones += not met
        self.assertGreater(rows, 100)
        self.assertGreater(nones, 50)

    def test_none_costs_less_in_mazes(self):
        found = 0
        for seed in range(20):
            hall, stand = maze(random.Random(seed)), ((0, 0),)
            by_pushes, by_steps = plain_costs(hall, stand, "pushes"), plain_costs(hall, stand, "steps")
            unlike = [end for end in by_pushes if by_pushes[end] != by_steps[end][::-1]]
            found += len(unlike)
            for end in unlike[:3] + [max(by_pushes, key=by_pushes.get)]:
                self.assertEqual(self.told(hall, stand, [(0, end[0])], "pushes")[2], by_pushes[end])
                self.assertEqual(self.told(hall, stand, [(0, end[0])], "steps")[2], by_steps[end])
        self.assertGreater(found, 10)

    def test_cost_of_each_push_is_added(self):
        told = self.told(STAIRS, STAIRS_STAND, [(0, (3, 3))], "steps")
        cost = (0, 0)
        for push in told[1]:
            cost = sum_of(cost, push_cost(push, "steps"))
        self.assertEqual(cost, told[2])


class TestTooMany(Case):
    def test_two_thousand(self):
        hall, stand = shelf_hall((5, 5, 5, 8, 2))
        told = least(hall, stand, [(0, (8, 0)), (3, (5, 3))], "steps")
        self.assertEqual(len(told[3]), 2000)
        self.assertEqual(told[0], "row")

    def test_refused_whatever_else_it_would_tell(self):
        hall, stand = shelf_hall((5, 5, 7, 7, 9))
        for goals in ([], [(0, (0, 0))], [(0, (8, 0))], [(0, (0, 1))]):
            for by in ("pushes", "steps"):
                self.assertRaises(TooMany, least, hall, stand, goals, by)
        self.assertRaises(TooMany, least, ROOMS, ROOMS_STAND, [], "pushes")
        self.assertRaises(TooMany, least, ROOMS, ROOMS_STAND, [(0, (0, 0))], "steps")


class TestTold(Case):
    def test_nothing_handed_in_is_changed(self):
        goals = [(1, (4, 0)), (0, (0, 0))]
        before = copy.deepcopy((LANE, LANE_STAND, goals))
        least(LANE, LANE_STAND, goals, "steps")
        least(LANE, LANE_STAND, goals, "pushes")
        self.assertEqual((LANE, LANE_STAND, goals), before)

    def test_told_anew(self):
        for goals in ([(1, (4, 0))], [(1, (1, 0))], []):
            told = least(LANE, LANE_STAND, goals, "steps")
            before = copy.deepcopy(told)
            self.assertEqual(least(LANE, LANE_STAND, goals, "steps"), before)
            for part in told:
                if isinstance(part, list):
                    part.clear()
            self.assertEqual(least(LANE, LANE_STAND, goals, "steps"), before)


if __name__ == "__main__":
    unittest.main()
