import copy
import random
import unittest

from plain import (
    BLUNT, EAST, MIGHTY, NORTH, PARTED_HALLS, ROOMS, ROOMS_STAND, SMALL_HALLS, SOME_HALLS, WEAK, paper_is_right,
    plain_asked_parts, plain_part_of, plain_parts, plain_reach_of, shelf_hall, some_goals, walled,
)
from slidehall.errors import TooMany
from slidehall.halls import is_hall, is_stand
from slidehall.leasts import least
from slidehall.parting import least_by_parts, part_of, parts, reach_of
from slidehall.rows import cost_of, meets, played
from slidehall.spreading import come_to

ROW, COLUMN, NEVER = (1, 1, "row", 0), (1, 1, "column", 0), (1, 1, "none", 0)
# Trolley 0 in the west, 1 in the east, a wall between them.
HALVES, HALVES_STAND = (5, 2, ((2, 0), (2, 1)), (WEAK, WEAK)), ((0, 0), (3, 0))
# In the west five strong ones that come to far more than 2,000 stands, in the east one, in a lane of its own.
CROWD = (9, 9, tuple((7, y) for y in range(9)), (MIGHTY,) * 5 + (WEAK,))
CROWD_STAND = tuple((x, x) for x in range(5)) + ((8, 0),)
# The other way about: the lane's trolley is the first one.
CROWD_BEHIND = (9, 9, CROWD[2], (WEAK,) + (MIGHTY,) * 5)
CROWD_BEHIND_STAND = ((8, 0),) + tuple((x, x) for x in range(5))


def cells(*rows):
    # The cells of the dots of a picture, the greatest y first.
    high = len(rows)
    return sorted((x, high - 1 - k) for k, row in enumerate(rows) for x, sign in enumerate(row) if sign == ".")


class TestReachOf(unittest.TestCase):
    def test_each_of_the_ways(self):
        for strong in (1, 0, -1):
            kinds = tuple((1, 1, ways, strong) for ways in ("any", "row", "column", "none"))
            hall, stand = (3, 2, (), kinds), ((0, 0), (1, 0), (2, 0), (0, 1))
            self.assertEqual(reach_of(hall, stand, 0), cells("...", "..."))
            self.assertEqual(reach_of(hall, stand, 1), cells("   ", "..."))
            self.assertEqual(reach_of(hall, stand, 2), cells("  .", "  ."))
            self.assertEqual(reach_of(hall, stand, 3), cells(".  ", "   "))

    def test_others_are_not_in_the_way(self):
        hall = (5, 1, (), (ROW, NEVER, BLUNT))
        self.assertEqual(reach_of(hall, ((2, 0), (1, 0), (3, 0)), 0), cells("....."))
        self.assertEqual(reach_of(hall, ((2, 0), (1, 0), (3, 0)), 2), cells("....."))

    def test_greater_ones(self):
        hall = (5, 4, (), ((2, 3, "row", 0), (2, 1, "column", -1), (5, 4, "any", 1), (3, 2, "none", 0)))
        stand = ((0, 0), (3, 1), (0, 0), (1, 1))
        self.assertEqual(reach_of(hall, stand, 0), cells("     ", ".....", ".....", "....."))
        self.assertEqual(reach_of(hall, stand, 1), cells("   ..", "   ..", "   ..", "   .."))
        self.assertEqual(reach_of(hall, stand, 2), cells(".....", ".....", ".....", "....."))
        self.assertEqual(reach_of(hall, stand, 3), cells("     ", " ... ", " ... ", "     "))

    def test_parted_by_walls(self):
        walls = walled(["..#..", "..#..", "..#.#"])
        hall = (5, 3, walls, (WEAK, WEAK, (2, 2, "any", 0)))
        self.assertEqual(reach_of(hall, ((0, 0), (3, 0), (3, 1)), 0), cells("..   ", "..   ", "..   "))
        self.assertEqual(reach_of(hall, ((0, 0), (3, 0), (3, 1)), 1), cells("   ..", "   ..", "   . "))
        self.assertEqual(reach_of(hall, ((0, 0), (3, 0), (3, 1)), 2), cells("   ..", "   ..", "     "))
        # One cell wide is too narrow for a greater one.
        hall = (5, 2, ((2, 1),), ((1, 2, "any", 0), (1, 1, "any", 0)))
        self.assertEqual(reach_of(hall, ((0, 0), (1, 0)), 0), cells("..   ", "..   "))
        self.assertEqual(reach_of(hall, ((0, 0), (1, 0)), 1), cells(".. ..", "....."))

    def test_round_a_corner(self):
        hall = (3, 3, walled(["...", ".##", "..."]), (WEAK, ROW, COLUMN))
        stand = ((2, 0), (0, 2), (0, 0))
        self.assertEqual(reach_of(hall, stand, 0), cells("...", ".  ", "..."))
        self.assertEqual(reach_of(hall, stand, 1), cells("...", "   ", "   "))
        self.assertEqual(reach_of(hall, stand, 2), cells(".  ", ".  ", ".  "))

    def test_by_the_words(self):
        for hall, stand in SOME_HALLS + PARTED_HALLS:
            for n in range(len(stand)):
                self.assertEqual(reach_of(hall, stand, n), plain_reach_of(hall, stand, n))

    def test_the_same_wherever_one_comes(self):
        for hall, stand in SMALL_HALLS[:30]:
            reaches = [reach_of(hall, stand, n) for n in range(len(stand))]
            for end in come_to(hall, stand):
                self.assertEqual([reach_of(hall, end, n) for n in range(len(stand))], reaches)


class TestParts(unittest.TestCase):
    def test_none(self):
        self.assertEqual(parts((3, 3, (), ()), ()), [])

    def test_one_each(self):
        self.assertEqual(parts(HALVES, HALVES_STAND), [[0], [1]])
        hall, stand = shelf_hall((2, 3, 4))
        self.assertEqual(parts(hall, stand), [[0], [1], [2]])
        self.assertEqual(parts((3, 1, (), (NEVER,) * 3), ((2, 0), (1, 0), (0, 0))), [[0], [1], [2]])

    def test_all_in_one(self):
        self.assertEqual(parts((3, 3, (), (WEAK,) * 4), ((0, 0), (1, 0), (2, 0), (0, 1))), [[0, 1, 2, 3]])
        self.assertEqual(parts((3, 3, (), (WEAK,)), ((0, 0),)), [[0]])

    def test_by_a_third_one_alone(self):
        # Two rows, and a column that crosses both.
        for kinds, stand in (
            ((ROW, ROW, COLUMN), ((0, 0), (0, 1), (2, 2))),
            ((ROW, COLUMN, ROW), ((0, 0), (2, 2), (0, 1))),
            ((COLUMN, ROW, ROW), ((2, 2), (0, 0), (0, 1))),
        ):
            self.assertEqual(parts((3, 3, (), kinds), stand), [[0, 1, 2]])
        self.assertEqual(parts((3, 3, (), (ROW, ROW)), ((0, 0), (0, 1))), [[0], [1]])
        # A dull one hangs together like others.
        kinds = (ROW, ROW, (1, 1, "column", -1))
        self.assertEqual(parts((3, 3, (), kinds), ((0, 0), (0, 1), (2, 2))), [[0, 1, 2]])

    def test_by_one_that_never_goes(self):
        kinds = ((1, 1, "row", 0), (1, 1, "row", 0), (1, 2, "none", 1))
        self.assertEqual(parts((4, 2, (), kinds), ((0, 0), (0, 1), (3, 0))), [[0, 1, 2]])

    def test_by_several(self):
        # A chain: each shares cells with its neighbours alone.
        kinds = (ROW, COLUMN, ROW, COLUMN, ROW)
        walls = walled([".....", "####.", ".....", ".####", "....."])
        stand = ((0, 0), (0, 1), (1, 2), (4, 3), (1, 4))
        self.assertEqual(parts((5, 5, walls, kinds), stand), [[0, 1, 2, 3, 4]])

    def test_numbers_of_parts_cross(self):
        hall = (3, 3, (), (ROW,) * 6)
        stand = ((0, 0), (0, 1), (0, 2), (2, 1), (2, 0), (2, 2))
        self.assertEqual(parts(hall, stand), [[0, 4], [1, 3], [2, 5]])
        # The last one joins what was apart, so the part of 1 comes behind that of 0 and 2.
        hall = (3, 3, (), (ROW, NEVER, ROW, (1, 2, "column", 0)))
        self.assertEqual(parts(hall, ((0, 0), (0, 2), (0, 1), (2, 0))), [[0, 2, 3], [1]])

    def test_touching_is_no_sharing(self):
        self.assertEqual(parts((4, 1, (), ((2, 1, "none", 0), (2, 1, "none", 0))), ((0, 0), (2, 0))), [[0], [1]])

    def test_by_the_words(self):
        many = {}
        for hall, stand in SOME_HALLS + PARTED_HALLS + SMALL_HALLS:
            told = parts(hall, stand)
            self.assertEqual(told, plain_parts(hall, stand))
            many[len(told)] = many.get(len(told), 0) + 1
        self.assertGreater(many[2] + many[3], 50)

    def test_never_in_the_way(self):
        for hall, stand in PARTED_HALLS[:30]:
            reaches = {}
            for part in parts(hall, stand):
                reach = set().union(*[reach_of(hall, stand, n) for n in part])
                self.assertTrue(all(not reach & other for other in reaches.values()))
                reaches[part[0]] = reach


class TestPartOf(unittest.TestCase):
    HALL = (5, 2, ((2, 0),), (WEAK, (2, 1, "row", 1), BLUNT, COLUMN))
    STAND = ((0, 0), (0, 1), (4, 1), (4, 0))

    def test_some(self):
        self.assertEqual(part_of(self.HALL, self.STAND, [1, 3]), (
            (5, 2, ((2, 0),), ((2, 1, "row", 1), COLUMN)), ((0, 1), (4, 0)),
        ))
        self.assertEqual(part_of(self.HALL, self.STAND, [2]), ((5, 2, ((2, 0),), (BLUNT,)), ((4, 1),)))

    def test_all(self):
        self.assertEqual(part_of(self.HALL, self.STAND, [0, 1, 2, 3]), (self.HALL, self.STAND))

    def test_none(self):
        self.assertEqual(part_of(self.HALL, self.STAND, []), ((5, 2, ((2, 0),), ()), ()))
        self.assertEqual(part_of((1, 1, (), ()), (), []), ((1, 1, (), ()), ()))

    def test_is_a_hall_with_a_stand(self):
        chance = random.Random(2)
        for hall, stand in SOME_HALLS[:100]:
            numbers = [n for n in range(len(stand)) if chance.random() < 0.5]
            told = part_of(hall, stand, numbers)
            self.assertEqual(told, plain_part_of(hall, stand, numbers))
            self.assertIsInstance(told, tuple)
            self.assertTrue(is_hall(told[0]) and is_stand(*told))


class Case(unittest.TestCase):
    def holds(self, hall, stand, goals, by, told):
        # All that is promised of a told row, by the words of the document.
        self.assertIsInstance(told, tuple)
        word, pushes, cost, rows = told
        self.assertEqual(word, "row")
        self.assertIsInstance(pushes, list)
        self.assertIsInstance(cost, tuple)
        self.assertIsInstance(rows, list)
        self.assertTrue(meets(hall, played(hall, stand, pushes)[-1], goals))
        self.assertEqual(cost, cost_of(pushes, by))
        asked = list(plain_asked_parts(hall, stand, goals))
        self.assertEqual([numbers for numbers, its_told in rows], [numbers for numbers, alone, its, own in asked])
        together = []
        for row, (numbers, alone, its, own) in zip(rows, asked):
            self.assertIsInstance(row, tuple)
            self.assertEqual(row[1][0], "row")
            self.assertTrue(paper_is_right(alone, its, own, by, row[1][3], row[1][2]))
            self.assertEqual(row[1], least(alone, its, own, by))
            together += [(numbers[n], direction, many) for n, direction, many in row[1][1]]
        self.assertEqual(pushes, together)


class TestLeastByParts(Case):
    def test_two_parts(self):
        goals = [(1, (4, 1)), (0, (0, 1)), (0, (0, 1))]
        for by in ("pushes", "steps"):
            told = least_by_parts(HALVES, HALVES_STAND, goals, by)
            self.holds(HALVES, HALVES_STAND, goals, by, told)
            self.assertEqual(told[1][0], (0, NORTH, 1))
            self.assertEqual([push[0] for push in told[1]], [0, 1, 1])
            self.assertEqual(told[2], (3, 3))
            self.assertEqual([numbers for numbers, its in told[3]], [[0], [1]])
            # In the part itself the trolley is number 0.
            self.assertEqual([push[0] for push in told[3][1][1][1]], [0, 0])

    def test_cost_by_each(self):
        hall, stand = shelf_hall((9, 9))
        told = least_by_parts(hall, stand, [(0, (8, 0)), (1, (5, 1))], "pushes")
        self.assertEqual(told[:3], ("row", [(0, EAST, 8), (1, EAST, 5)], (2, 13)))
        told = least_by_parts(hall, stand, [(0, (8, 0)), (1, (5, 1))], "steps")
        self.assertEqual(told[:3], ("row", [(0, EAST, 8), (1, EAST, 5)], (13, 2)))
        self.assertEqual(told[3][1][1][:3], ("row", [(0, EAST, 5)], (5, 1)))

    def test_goals_of_a_part_in_their_order(self):
        hall, stand = (5, 2, ((2, 0), (2, 1)), (WEAK, WEAK, WEAK, WEAK)), ((3, 0), (0, 0), (4, 0), (1, 0))
        goals = [(3, (0, 1)), (2, (3, 1)), (1, (1, 1)), (0, (4, 1)), (3, (0, 1))]
        for by in ("pushes", "steps"):
            told = least_by_parts(hall, stand, goals, by)
            self.holds(hall, stand, goals, by, told)
            self.assertEqual([numbers for numbers, its in told[3]], [[0, 2], [1, 3]])

    def test_no_part_has_a_goal(self):
        for hall, stand in ((HALVES, HALVES_STAND), ((2, 2, (), ()), ()), (ROOMS, ROOMS_STAND), (CROWD, CROWD_STAND)):
            for by in ("pushes", "steps"):
                self.assertEqual(least_by_parts(hall, stand, [], by), ("row", [], (0, 0), []))

    def test_some_parts_have_no_goal(self):
        told = least_by_parts(HALVES, HALVES_STAND, [(1, (4, 0))], "pushes")
        self.assertEqual(told[:3], ("row", [(1, EAST, 1)], (1, 1)))
        self.assertEqual([numbers for numbers, its in told[3]], [[1]])
        # Nothing of the crowd is gone through, so nothing of it is too many.
        told = least_by_parts(CROWD, CROWD_STAND, [(5, (8, 8))], "pushes")
        self.assertEqual(told[:3], ("row", [(5, NORTH, 8)], (1, 8)))
        told = least_by_parts(CROWD, CROWD_STAND, [(5, (7, 8))], "pushes")
        self.assertEqual(told[:2], ("none", [5]))

    def test_met_at_once(self):
        told = least_by_parts(HALVES, HALVES_STAND, [(0, (0, 0)), (1, (3, 0))], "steps")
        self.assertEqual(told[:3], ("row", [], (0, 0)))
        self.assertEqual([numbers for numbers, its in told[3]], [[0], [1]])

    def test_whole_too_many_and_no_part(self):
        goals = [(2, (7, 0)), (0, (6, 8)), (1, (8, 8))]
        self.assertRaises(TooMany, least, ROOMS, ROOMS_STAND, goals, "pushes")
        for by in ("pushes", "steps"):
            told = least_by_parts(ROOMS, ROOMS_STAND, goals, by)
            self.holds(ROOMS, ROOMS_STAND, goals, by, told)
            self.assertEqual([numbers for numbers, its in told[3]], [[0], [1], [2]])

    def test_none(self):
        for by in ("pushes", "steps"):
            told = least_by_parts(HALVES, HALVES_STAND, [(0, (0, 1)), (1, (0, 0))], by)
            self.assertEqual(told[:2], ("none", [1]))
            self.assertTrue(paper_is_right((5, 2, HALVES[2], (WEAK,)), ((3, 0),), [(0, (0, 0))], by, told[2], None))
            self.assertEqual(len(told), 3)
            self.assertIsInstance(told[1], list)
            # The first part that has none is told.
            told = least_by_parts(HALVES, HALVES_STAND, [(1, (0, 0)), (0, (4, 0))], by)
            self.assertEqual(told[:2], ("none", [0]))

    def test_none_ahead_of_too_many(self):
        far = [(n, (0, 8)) for n in range(1, 6)]
        told = least_by_parts(CROWD_BEHIND, CROWD_BEHIND_STAND, [(1, (0, 0)), (0, (0, 0))], "steps")
        self.assertEqual(told[:2], ("none", [0]))
        told = least_by_parts(CROWD_BEHIND, CROWD_BEHIND_STAND, far + [(0, (7, 0))], "pushes")
        self.assertEqual(told[:2], ("none", [0]))

    def test_too_many_ahead_of_none(self):
        for goals in ([(5, (0, 0)), (0, (0, 0))], [(0, (0, 0)), (0, (1, 1)), (5, (7, 0))], [(4, (7, 7))]):
            self.assertRaises(TooMany, least_by_parts, CROWD, CROWD_STAND, goals, "steps")
        goals = [(0, (8, 3)), (2, (1, 1))]
        self.assertRaises(TooMany, least_by_parts, CROWD_BEHIND, CROWD_BEHIND_STAND, goals, "steps")

    def test_costs_what_the_whole_costs(self):
        chance = random.Random(12)
        words = {"row": 0, "none": 0}
        for hall, stand in PARTED_HALLS + SMALL_HALLS[:40]:
            for by in ("pushes", "steps"):
                for many in (0, 1, 2, 3):
                    goals = some_goals(chance, hall, stand, many)
                    whole = least(hall, stand, goals, by)
                    told = least_by_parts(hall, stand, goals, by)
                    self.assertEqual(told[0], whole[0])
                    words[told[0]] += 1
                    if told[0] == "row":
                        self.holds(hall, stand, goals, by, told)
                        self.assertEqual(told[2], whole[2])
                    else:
                        self.none_holds(hall, stand, goals, by, told)
        self.assertTrue(all(many > 100 for many in words.values()), words)

    def none_holds(self, hall, stand, goals, by, told):
        for numbers, alone, its, own in plain_asked_parts(hall, stand, goals):
            if least(alone, its, own, by)[0] == "none":
                self.assertEqual(told[1], numbers)
                self.assertTrue(paper_is_right(alone, its, own, by, told[2], None))
                return
        self.fail(told)


def lists_within(thing):
    if isinstance(thing, list):
        yield thing
    if isinstance(thing, (list, tuple)):
        for part in thing:
            yield from lists_within(part)


class TestTold(unittest.TestCase):
    GOALS = [(1, (4, 1)), (0, (0, 1))]
    NUMBERS = [0, 1]
    ASKS = (
        lambda: reach_of(HALVES, HALVES_STAND, 0), lambda: parts(HALVES, HALVES_STAND),
        lambda: part_of(HALVES, HALVES_STAND, TestTold.NUMBERS),
        lambda: least_by_parts(HALVES, HALVES_STAND, TestTold.GOALS, "steps"),
        lambda: least_by_parts(HALVES, HALVES_STAND, [], "steps"),
        lambda: least_by_parts(HALVES, HALVES_STAND, [(1, (0, 0))], "steps"),
    )

    def test_nothing_handed_in_is_changed(self):
        before = copy.deepcopy((HALVES, HALVES_STAND, self.GOALS, self.NUMBERS))
        for asked in self.ASKS:
            asked()
            self.assertEqual((HALVES, HALVES_STAND, self.GOALS, self.NUMBERS), before)

    def test_told_anew(self):
        for asked in self.ASKS:
            before = copy.deepcopy(asked())
            for k in range(len(list(lists_within(before)))):
                told = asked()
                list(lists_within(told))[k].append("more")
                self.assertEqual(asked(), before)

    def test_no_two_lists_are_one(self):
        for asked in self.ASKS:
            found = list(lists_within((asked(), asked())))
            self.assertEqual(len({id(thing) for thing in found}), len(found))
        found = list(lists_within(least_by_parts(HALVES, HALVES_STAND, self.GOALS, "steps")))
        self.assertEqual(len(found), 2 + 2 * 3)


if __name__ == "__main__":
    unittest.main()
