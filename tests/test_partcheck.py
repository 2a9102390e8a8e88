import copy
import random
import unittest

from checking import CheckerCase
from plain import (
    EAST, NORTH, PARTED_HALLS, ROOMS, ROOMS_STAND, SMALL_HALLS, THINGS, WEAK, WEST, plain_asked_parts,
    plain_shows_by_parts, some_goals, spoiled,
)
from slidehall.leasts import least
from slidehall.partcheck import shows_by_parts
from slidehall.parting import least_by_parts

ROW = (1, 1, "row", 0)
# Trolley 1 has no goal; 0 and 2 each go along a row of their own.
LANES, LANES_STAND = (2, 3, (), (ROW, ROW, ROW)), ((0, 0), (0, 1), (0, 2))
LANES_GOALS = [(2, (1, 2)), (0, (1, 0))]
# 0 is met at once, 2 and 1 are never: each of these two may be told.
LANES_NONE = [(2, (1, 0)), (1, (0, 0)), (0, (0, 0))]
HALVES, HALVES_STAND = (5, 2, ((2, 0), (2, 1)), (WEAK, WEAK)), ((0, 0), (3, 0))
HALVES_GOALS = [(1, (4, 1)), (0, (1, 1))]


class Case(CheckerCase):
    def ask(self, *handed):
        return shows_by_parts(*handed), plain_shows_by_parts(*handed)


class TestTaken(Case):
    def test_what_least_by_parts_tells(self):
        chance = random.Random(9)
        for hall, stand in PARTED_HALLS + SMALL_HALLS[:40]:
            for by in ("pushes", "steps"):
                for many in (0, 1, 3):
                    goals = some_goals(chance, hall, stand, many)
                    self.takes(hall, stand, goals, by, least_by_parts(hall, stand, goals, by))

    def test_no_part_has_a_goal(self):
        for hall, stand in ((LANES, LANES_STAND), ((2, 2, (), ()), ()), (ROOMS, ROOMS_STAND)):
            self.takes(hall, stand, [], "steps", ("row", [], (0, 0), []))
            self.takes_not(hall, stand, [], "steps", ("row", [], (0, 1), []))
            self.takes_not(hall, stand, [], "steps", ("row", [(0, EAST, 1)], (1, 1), []))
            self.takes_not(hall, stand, [], "steps", ("none", [], [((), (0, 0))]))
            self.takes_not(hall, stand, [], "steps", ("row", [], (0, 0), [([], ("row", [], (0, 0), [((), (0, 0))]))]))

    def test_more_than_two_thousand_in_the_whole(self):
        goals = [(2, (7, 0)), (0, (6, 8)), (1, (8, 8))]
        self.takes(ROOMS, ROOMS_STAND, goals, "pushes", least_by_parts(ROOMS, ROOMS_STAND, goals, "pushes"))

    def test_another_row_of_the_same_cost(self):
        word, pushes, cost, rows = least_by_parts(HALVES, HALVES_STAND, HALVES_GOALS, "steps")
        self.assertEqual(cost, (4, 4))
        ways = ([(0, EAST, 1), (0, NORTH, 1)], [(0, NORTH, 1), (0, EAST, 1)])
        for one in ways:
            for other in ways:
                rows = [(numbers, ("row", list(way), (2, 2), told[3]))
                        for (numbers, told), way in zip(rows, (one, other))]
                together = one + [(1,) + push[1:] for push in other]
                self.takes(HALVES, HALVES_STAND, HALVES_GOALS, "steps", ("row", together, cost, rows))
                self.takes_not(HALVES, HALVES_STAND, HALVES_GOALS, "steps", ("row", together[::-1], cost, rows))

    def test_none_of_any_part_that_has_none(self):
        for by in ("pushes", "steps"):
            told = least_by_parts(LANES, LANES_STAND, LANES_NONE, by)
            self.assertEqual(told[1], [1])
            self.takes(LANES, LANES_STAND, LANES_NONE, by, told)
            paper = least((2, 3, (), (ROW,)), ((0, 2),), [(0, (1, 0))], by)[1]
            self.takes(LANES, LANES_STAND, LANES_NONE, by, ("none", [2], paper))
            self.takes(LANES, LANES_STAND, LANES_NONE, by, ("none", [2], paper[::-1]))
            self.takes_not(LANES, LANES_STAND, LANES_NONE, by, ("none", [1], paper))


class TestRefused(Case):
    def setUp(self):
        self.word, self.pushes, self.cost, self.rows = least_by_parts(LANES, LANES_STAND, LANES_GOALS, "steps")
        self.assertEqual(self.pushes, [(0, EAST, 1), (2, EAST, 1)])
        self.assertEqual(self.cost, (2, 2))
        self.takes(LANES, LANES_STAND, LANES_GOALS, "steps", (self.word, self.pushes, self.cost, self.rows))

    def refuses(self, pushes, cost, rows, word="row"):
        self.takes_not(LANES, LANES_STAND, LANES_GOALS, "steps", (word, pushes, cost, rows))

    def test_numbers_of_a_part_without_a_goal(self):
        first, last = self.rows
        idle = ([1], ("row", [], (0, 0), [(((0, 1),), (0, 0)), (((1, 1),), (1, 1))]))
        self.refuses(self.pushes, self.cost, [first, idle, last])
        self.refuses(self.pushes, self.cost, [first, last, idle])
        self.refuses(self.pushes, self.cost, [idle, last])
        self.refuses(self.pushes, self.cost, [first, ([1], last[1])])

    def test_numbers_of_another_order(self):
        self.refuses(self.pushes, self.cost, self.rows[::-1])
        self.refuses(self.pushes[::-1], self.cost, self.rows[::-1])
        hall, stand, goals = (3, 1, (), (WEAK, WEAK)), ((0, 0), (1, 0)), [(1, (2, 0))]
        word, pushes, cost, rows = least_by_parts(hall, stand, goals, "steps")
        self.takes(hall, stand, goals, "steps", (word, pushes, cost, rows))
        for numbers in ([1, 0], [0], [1], [0, 1, 1], [], [0, 1, 2], (0, 1), [False, True], ["0", "1"], None):
            self.takes_not(hall, stand, goals, "steps", (word, pushes, cost, [(numbers, rows[0][1])]))

    def test_part_missing_or_twice(self):
        first, last = self.rows
        for rows in ([first], [last], [], [first, first], [last, last], [first, last, last], [first, first, last]):
            self.refuses(self.pushes, self.cost, rows)
        self.refuses([(0, EAST, 1)], (1, 1), [first])
        self.refuses([(2, EAST, 1)], (1, 1), [last])

    def test_told_one_that_is_not_least(self):
        first, last = self.rows
        round_about = [(0, EAST, 1), (0, WEST, 1), (0, EAST, 1)]
        longer = ([2], ("row", round_about, (3, 3), last[1][3]))
        self.refuses([(0, EAST, 1)] + [(2,) + push[1:] for push in round_about], (4, 4), [first, longer])
        self.refuses(self.pushes, self.cost, [first, ([2], ("row", [(0, EAST, 1)], (1, 1), last[1][3][:1]))])
        self.refuses(self.pushes, self.cost, [first, ([2], first[1])])
        self.refuses([(0, EAST, 1)], (1, 1), [first, ([2], ("row", [], (0, 0), last[1][3]))])

    def test_none_within_rows(self):
        hall, stand, goals = LANES, LANES_STAND, LANES_NONE
        pairs = [(numbers, least(alone, its, own, "steps"))
                 for numbers, alone, its, own in plain_asked_parts(hall, stand, goals)]
        self.assertEqual([told[0] for numbers, told in pairs], ["row", "none", "none"])
        self.takes_not(hall, stand, goals, "steps", ("row", [], (0, 0), pairs))
        self.takes_not(hall, stand, goals, "steps", ("row", [], (0, 0), pairs[:1]))
        self.takes_not(hall, stand, goals, "steps", ("none", [1, 2], pairs[1][1][1]))
        self.takes_not(hall, stand, goals, "steps", ("none", [1], pairs[1][1]))

    def test_pushes_in_another_order(self):
        self.refuses(self.pushes[::-1], self.cost, self.rows)

    def test_pushes_with_the_parts_numbers(self):
        self.refuses([(0, EAST, 1), (0, EAST, 1)], self.cost, self.rows)
        self.refuses([(0, EAST, 1), (1, EAST, 1)], self.cost, self.rows)
        first, last = self.rows
        with_the_halls = ([2], ("row", [(2, EAST, 1)], (1, 1), last[1][3]))
        self.refuses(self.pushes, self.cost, [first, with_the_halls])

    def test_other_pushes(self):
        for pushes in ([], self.pushes[:1], self.pushes[1:], self.pushes + [(1, EAST, 1)], tuple(self.pushes),
                       [(0, EAST, True), (2, EAST, 1)], [(False, EAST, 1), (2, EAST, 1)], [(0, EAST, 1), [2, EAST, 1]],
                       [(0, False, 1), (2, EAST, 1)], [(0, EAST, 1), (2, EAST, 1, 0)], None, "row"):
            self.refuses(pushes, self.cost, self.rows)

    def test_a_cost_otherwise(self):
        for cost in ((2, 1), (1, 2), (3, 2), (1, 1), (0, 0), (4, 4), (-2, -2), [2, 2], (2, 2, 2), (2,), None, 2):
            self.refuses(self.pushes, cost, self.rows)
        first, last = self.rows
        shifted = [([0], ("row", first[1][1], (2, 1), first[1][3])), last]
        self.refuses(self.pushes, (3, 2), shifted)

    def test_true_and_false_are_no_numbers(self):
        told = least_by_parts(HALVES, HALVES_STAND, [(1, (4, 0))], "steps")
        self.assertEqual(told[:3], ("row", [(1, EAST, 1)], (1, 1)))
        rows = told[3]
        for wrong in (
            ("row", [(True, EAST, 1)], (1, 1), rows), ("row", [(1, False, 1)], (1, 1), rows),
            ("row", [(1, EAST, True)], (1, 1), rows), ("row", [(1, EAST, 1)], (True, 1), rows),
            ("row", [(1, EAST, 1)], (1, True), rows), ("row", [(1, EAST, 1)], (1, 1), [([True], rows[0][1])]),
        ):
            self.takes_not(HALVES, HALVES_STAND, [(1, (4, 0))], "steps", wrong)

    def test_words(self):
        for word in ("none", "Row", "rows", "", None, True, ("row",), ["row"], 0):
            self.refuses(self.pushes, self.cost, self.rows, word)

    def test_by_the_other(self):
        hall, stand, goals = (9, 1, (), (WEAK,)), ((0, 0),), [(0, (8, 0))]
        told = least_by_parts(hall, stand, goals, "steps")
        self.takes(hall, stand, goals, "steps", told)
        self.takes_not(hall, stand, goals, "pushes", told)


class TestNoneRefused(Case):
    def test_numbers(self):
        paper = least((2, 3, (), (ROW,)), ((0, 1),), [(0, (0, 0))], "steps")[1]
        self.takes(LANES, LANES_STAND, LANES_NONE, "steps", ("none", [1], paper))
        for numbers in ([0], [2], [], [0, 1], [1, 2], [0, 1, 2], [1, 1], [3], [-2], (1,), [True], ["1"], [[1]], 1,
                        None, [10 ** 30], "1"):
            self.takes_not(LANES, LANES_STAND, LANES_NONE, "steps", ("none", numbers, paper))

    def test_part_without_a_goal(self):
        # Its paper would do for goals that are never met, but it has none.
        goals = [(0, (0, 1))]
        idle = [(((0, 1),), (0, 0)), (((1, 1),), (0, 0))]
        self.takes_not(LANES, LANES_STAND, goals, "steps", ("none", [1], idle))
        self.takes(LANES, LANES_STAND, goals, "steps", ("none", [0], [(((0, 0),), (0, 0)), (((1, 0),), (0, 0))]))
        self.takes_not(LANES, LANES_STAND, [], "steps", ("none", [1], idle))

    def test_part_that_has_a_row(self):
        paper = least((2, 3, (), (ROW,)), ((0, 0),), [(0, (0, 0))], "steps")[3]
        self.takes_not(LANES, LANES_STAND, LANES_NONE, "steps", ("none", [0], paper))

    def test_papers(self):
        paper = least((2, 3, (), (ROW,)), ((0, 1),), [(0, (0, 0))], "steps")[1]
        for wrong in ([], paper[:1], paper[1:], paper + paper[:1], tuple(paper), None, [paper], ("none", paper)):
            self.takes_not(LANES, LANES_STAND, LANES_NONE, "steps", ("none", [1], wrong))
        for wrong in (("none", [1]), ("none", [1], paper, paper), ("none", paper), ("row", [1], paper),
                      ["none", [1], paper], (None, [1], paper)):
            self.takes_not(LANES, LANES_STAND, LANES_NONE, "steps", wrong)


class TestWrongInputs(Case):
    def test_things(self):
        for by in ("pushes", "steps"):
            for thing in THINGS:
                for goals in (LANES_GOALS, LANES_NONE):
                    self.takes_not(LANES, LANES_STAND, goals, by, thing)
                # Without goals one of these things is right.
                taken = self.answers(LANES, LANES_STAND, [], by, thing)
                self.assertEqual(taken, thing == ("row", [], (0, 0), []))

    def test_each_part_spoiled(self):
        for goals, least_many in ((LANES_GOALS, 2000), (LANES_NONE, 400), ([], 60), ([(1, (1, 1))], 1000)):
            for by in ("pushes", "steps"):
                told = least_by_parts(LANES, LANES_STAND, goals, by)
                answers = [self.answers(LANES, LANES_STAND, goals, by, thing) for thing in spoiled(told)]
                self.assertGreater(answers.count(False), least_many)
                self.assertLess(answers.count(True), 200)

    def test_spoiled_parts_of_two(self):
        hall, stand = (4, 1, ((2, 0),), (WEAK, WEAK)), ((3, 0), (0, 0))
        told = least_by_parts(hall, stand, [(1, (1, 0)), (0, (3, 0))], "steps")
        answers = [self.answers(hall, stand, [(1, (1, 0)), (0, (3, 0))], "steps", thing) for thing in spoiled(told)]
        self.assertGreater(answers.count(False), 500)


class TestTold(Case):
    def test_nothing_handed_in_is_changed(self):
        for goals in (LANES_GOALS, LANES_NONE):
            told = least_by_parts(LANES, LANES_STAND, goals, "steps")
            before = copy.deepcopy((LANES, LANES_STAND, goals, told))
            for k in range(2):
                self.takes(LANES, LANES_STAND, goals, "steps", told)
                self.assertEqual((LANES, LANES_STAND, goals, told), before)


if __name__ == "__main__":
    unittest.main()
