import copy
import itertools
import random
import unittest

from checking import CheckerCase
from plain import (
    BLUNT, EAST, MIGHTY, ROOMS, ROOMS_STAND, SMALL_HALLS, SOUTH, THINGS, WEAK, WEST, plain_shows_least, shelf_hall,
    some_goals, spoiled,
)
from slidehall.keeping import floor_of
from slidehall.leastcheck import shows_least
from slidehall.leasts import least

LANE, LANE_STAND = (5, 1, (), (MIGHTY, BLUNT)), ((0, 0), (2, 0))
# The dull one is brought to the end, the strong one back.
LANE_GOALS = [(1, (4, 0)), (0, (0, 0))]
SHORT, SHORT_STAND = (3, 1, (), (WEAK,)), ((1, 0),)


def with_cost(paper, number, cost):
    return paper[:number] + [(paper[number][0], cost)] + paper[number + 1:]


class Case(CheckerCase):
    def ask(self, *handed):
        return shows_least(*handed), plain_shows_least(*handed)


class TestTaken(Case):
    def test_what_least_tells(self):
        chance = random.Random(5)
        for hall, stand in SMALL_HALLS:
            for by in ("pushes", "steps"):
                for many in (0, 1, 2):
                    goals = some_goals(chance, hall, stand, many)
                    self.takes(hall, stand, goals, by, least(hall, stand, goals, by))

    def test_no_trolleys(self):
        for by in ("pushes", "steps"):
            self.takes((2, 2, (), ()), (), [], by, ("row", [], (0, 0), [((), (0, 0))]))
            self.takes_not((2, 2, (), ()), (), [], by, ("row", [], (0, 0), []))
            self.takes_not((2, 2, (), ()), (), [], by, ("none", [((), (0, 0))]))

    def test_another_row_of_the_same_cost(self):
        hall, stand, goals = (3, 3, (), (WEAK,)), ((0, 0),), [(0, (2, 2))]
        paper = least(hall, stand, goals, "steps")[3]
        for row in ([(0, 0, 2), (0, 1, 2)], [(0, 1, 2), (0, 0, 2)]):
            self.takes(hall, stand, goals, "steps", ("row", row, (4, 2), paper))

    def test_paper_in_any_order(self):
        for by in ("pushes", "steps"):
            word, pushes, cost, paper = least(LANE, LANE_STAND, LANE_GOALS, by)
            for seed in range(9):
                mixed = random.Random(seed).sample(paper, len(paper))
                self.takes(LANE, LANE_STAND, LANE_GOALS, by, (word, pushes, cost, mixed))
            self.takes(LANE, LANE_STAND, LANE_GOALS, by, (word, pushes, cost, paper[::-1]))

    def test_costs_of_no_row(self):
        # No row has steps without a push, but costs needn't be those of rows.
        hall, stand, goals = (4, 1, (), (WEAK,)), ((0, 0),), [(0, (3, 0))]
        costs = [(0, 0), (1, 0), (2, 0), (3, 1)]
        paper = [(((x, 0),), cost) for x, cost in enumerate(costs)]
        self.takes(hall, stand, goals, "steps", ("row", [(0, EAST, 3)], (3, 1), paper))
        for by in ("pushes", "steps"):
            nought = [(pair[0], (0, 0)) for pair in paper]
            self.takes(hall, stand, [], by, ("row", [], (0, 0), nought))
            self.takes(hall, stand, [(0, (3, 0)), (0, (0, 0))], by, ("none", nought))
            self.takes_not(hall, stand, goals, by, ("row", [(0, EAST, 3)], (3, 1), nought))

    def test_costs_below_nought(self):
        # From where nothing leads back a cost may be as small as it likes, but not where the goals are met.
        hall, stand = (4, 1, (), (MIGHTY, BLUNT)), ((0, 0), (1, 0))
        paper = least(hall, stand, [], "steps")[3]
        low = [(end, (-50, 3) if end[1] == (3, 0) else cost) for end, cost in paper]
        self.takes(hall, stand, [], "steps", ("row", [], (0, 0), paper))
        self.takes_not(hall, stand, [], "steps", ("row", [], (0, 0), low))
        self.takes(hall, stand, [(1, (1, 0))], "steps", ("row", [], (0, 0), low))
        self.takes(hall, stand, [(1, (0, 0))], "steps", ("none", low))
        self.takes_not(hall, stand, [(1, (3, 0))], "steps", ("row", [(0, EAST, 2)], (2, 1), low))

    def test_more_stands_than_are_come_to(self):
        hall, stand = (5, 1, ((2, 0),), (WEAK,)), ((0, 0),)
        paper = [(((0, 0),), (0, 0)), (((1, 0),), (1, 1))]
        far = [(((3, 0),), (-7, 0)), (((4, 0),), (-7, 4))]
        goals = [(0, (1, 0))]
        self.takes(hall, stand, goals, "pushes", ("row", [(0, EAST, 1)], (1, 1), paper))
        self.takes(hall, stand, goals, "pushes", ("row", [(0, EAST, 1)], (1, 1), far + paper))
        self.takes_not(hall, stand, goals, "pushes", ("row", [(0, EAST, 1)], (1, 1), far[:1] + paper))
        self.takes_not(hall, stand, [(0, (4, 0))], "pushes", ("row", [(0, EAST, 1)], (1, 1), far + paper))
        self.takes(hall, stand, [(0, (4, 0))], "pushes", ("none", paper))
        # One of the paper meets them, though it is not come to.
        self.takes_not(hall, stand, [(0, (4, 0))], "pushes", ("none", far + paper))

    def test_more_than_two_thousand_stands(self):
        rooms = [room_of(cell) for cell in ROOMS_STAND]
        stands = list(itertools.product(*rooms))
        self.assertEqual(len(stands), 2001)
        told = ("row", [], (0, 0), [(stand, (0, 0)) for stand in stands])
        self.assertIs(shows_least(ROOMS, ROOMS_STAND, [], "steps", told), True)
        told[3].pop()
        self.assertIs(shows_least(ROOMS, ROOMS_STAND, [], "steps", told), False)


def room_of(cell):
    floor = set(floor_of(ROOMS))
    room, waiting = set(), [cell]
    while waiting:
        x, y = waiting.pop()
        if (x, y) in floor - room:
            room.add((x, y))
            waiting += [(x + 1, y), (x - 1, y), (x, y + 1), (x, y - 1)]
    return sorted(room)


class TestRefused(Case):
    def both(self):
        for by in ("pushes", "steps"):
            told = least(LANE, LANE_STAND, LANE_GOALS, by)
            self.takes(LANE, LANE_STAND, LANE_GOALS, by, told)
            yield (by,) + told[1:]

    def refuses(self, by, pushes, cost, paper):
        self.takes_not(LANE, LANE_STAND, LANE_GOALS, by, ("row", pushes, cost, paper))

    def test_stand_twice(self):
        for by, pushes, cost, paper in self.both():
            for pair in paper:
                self.refuses(by, pushes, cost, paper + [pair])
                self.refuses(by, pushes, cost, [(pair[0], (0, 0))] + paper)

    def test_stand_missing(self):
        for by, pushes, cost, paper in self.both():
            for number in range(len(paper)):
                self.refuses(by, pushes, cost, paper[:number] + paper[number + 1:])
            self.refuses(by, pushes, cost, [])

    def test_cost_too_great(self):
        # These costs are the least ones of rows, so one more is more than a push lets them be.
        for by, pushes, cost, paper in self.both():
            for number, (stand, (first, second)) in enumerate(paper):
                self.refuses(by, pushes, cost, with_cost(paper, number, (first, second + 1)))
                self.refuses(by, pushes, cost, with_cost(paper, number, (first + 1, second)))

    def test_cost_too_small(self):
        for by, pushes, cost, paper in self.both():
            for number, (stand, (first, second)) in enumerate(paper):
                if stand in (LANE_STAND, ((0, 0), (4, 0))):
                    self.refuses(by, pushes, cost, with_cost(paper, number, (first, second - 1)))
                    self.refuses(by, pushes, cost, with_cost(paper, number, (first - 1, second)))

    def test_another_cost_told(self):
        for by, pushes, (first, second), paper in self.both():
            for other in ((first, second + 1), (first, second - 1), (first + 1, second), (first - 1, second),
                          (second, first), (0, 0), (-first, -second)):
                self.refuses(by, pushes, other, paper)

    def test_by_the_other(self):
        for by, pushes, cost, paper in self.both():
            other = {"pushes": "steps", "steps": "pushes"}[by]
            self.takes_not(LANE, LANE_STAND, LANE_GOALS, other, ("row", pushes, cost, paper))

    def test_push_too_many(self):
        # East and back once more: let by, and it ends as asked.
        longer = [(0, EAST, 3), (0, WEST, 3), (0, EAST, 1), (0, WEST, 1)]
        for by, pushes, cost, paper in self.both():
            cost_of_longer = (4, 8) if by == "pushes" else (8, 4)
            self.refuses(by, longer, cost, paper)
            self.refuses(by, longer, cost_of_longer, paper)

    def test_push_not_let_by(self):
        for by, pushes, cost, paper in self.both():
            self.refuses(by, [(0, EAST, 4), (0, WEST, 2)], cost, paper)
            self.refuses(by, [(0, EAST, 3), (0, WEST, 3), (1, EAST, 1)], cost, paper)
            self.refuses(by, [(0, EAST, 10 ** 30)] + pushes, cost, paper)
            self.refuses(by, [(1, WEST, 1)] + pushes, cost, paper)

    def test_row_that_doesnt_end_as_asked(self):
        for by, pushes, cost, paper in self.both():
            self.refuses(by, [(0, EAST, 3)], (1, 3) if by == "pushes" else (3, 1), paper)
            self.refuses(by, [], (0, 0), paper)
            same_cost = [(0, EAST, 2), (0, WEST, 2), (0, EAST, 2)]
            self.refuses(by, same_cost[:2], (2, 4) if by == "pushes" else (4, 2), paper)

    def test_no_pushes_of_the_hall(self):
        for by, pushes, cost, paper in self.both():
            for push in ((2, EAST, 1), (-1, EAST, 1), (-2, EAST, 3), (0, 4, 1), (0, -4, 3), (0, -1, 1), (0, EAST, 0),
                         (0, EAST, -1), (10 ** 30, 0, 1), (0, 10 ** 30, 1)):
                self.refuses(by, [push], cost, paper)
                self.refuses(by, [push] + pushes, cost, paper)
                self.refuses(by, pushes + [push], cost, paper)
            # A direction, or a trolley, counted from behind would lead there, too.
            self.refuses(by, [(0, -4, 3), (0, WEST, 3)], cost, paper)
            self.refuses(by, [(-2, EAST, 3), (0, WEST, 3)], cost, paper)
            nought = [(0, EAST, 3), (0, SOUTH, 0), (0, WEST, 3)]
            self.refuses(by, nought, (3, 6) if by == "pushes" else (6, 3), paper)

    def test_steps_below_nought(self):
        # They would make the row cost less than the paper lets any.
        for by, pushes, (first, second), paper in self.both():
            for many in (-1, -2, -(10 ** 30)):
                cost = (first + 1, second + many) if by == "pushes" else (first + many, second + 1)
                self.refuses(by, pushes + [(0, EAST, many)], cost, paper)

    def test_counted_from_behind(self):
        hall, stand, goals = (1, 3, (), (WEAK,)), ((0, 1),), [(0, (0, 0))]
        paper = least(hall, stand, goals, "steps")[3]
        self.takes(hall, stand, goals, "steps", ("row", [(0, SOUTH, 1)], (1, 1), paper))
        for push in ((-1, SOUTH, 1), (0, -1, 1), (-1, -1, 1), (0, SOUTH - 8, 1), (0, SOUTH + 4, 1)):
            self.takes_not(hall, stand, goals, "steps", ("row", [push], (1, 1), paper))

    def test_longer_row_than_least(self):
        # Right in all but that another row costs less: no paper shows it.
        pushes = [(0, EAST, 3), (0, WEST, 2), (0, WEST, 1)]
        for by, least_pushes, cost, paper in self.both():
            cost = (3, 6) if by == "pushes" else (6, 3)
            self.refuses(by, pushes, cost, paper)
            raised = [(stand, cost if stand == ((0, 0), (4, 0)) else its) for stand, its in paper]
            self.refuses(by, pushes, cost, raised)

    def test_first_stand_with_another_cost(self):
        for cost in ((0, 1), (1, 0), (-1, 0), (0, -1)):
            self.takes_not(SHORT, SHORT_STAND, [(0, (1, 0))], "steps", ("row", [], (0, 0), [
                (((0, 0),), (0, 0)), (((1, 0),), cost), (((2, 0),), (0, 0)),
            ]))
        # All costs the same much less: each push keeps to them, but the first stand's isn't nought.
        low = [(((x, 0),), (-9, 0)) for x in range(3)]
        self.takes_not(SHORT, SHORT_STAND, [(0, (2, 0)), (0, (0, 0))], "steps", ("none", low))

    def test_none_where_a_stand_meets_the_goals(self):
        for by in ("pushes", "steps"):
            paper = least(LANE, LANE_STAND, LANE_GOALS, by)[3]
            self.takes_not(LANE, LANE_STAND, LANE_GOALS, by, ("none", paper))
            self.takes_not(LANE, LANE_STAND, [], by, ("none", paper))
            self.takes(LANE, LANE_STAND, [(1, (1, 0))], by, ("none", paper))
            for number in range(len(paper)):
                short = paper[:number] + paper[number + 1:]
                self.takes_not(LANE, LANE_STAND, [(1, (1, 0))], by, ("none", short))

    def test_none_of_none(self):
        self.takes_not(SHORT, SHORT_STAND, [(0, (0, 0)), (0, (1, 0))], "steps", ("none", []))

    def test_words(self):
        by, pushes, cost, paper = next(self.both())
        for word in ("none", "Row", "rows", "", None, True, ("row",), ["row"], "closed", 0):
            self.takes_not(LANE, LANE_STAND, LANE_GOALS, by, (word, pushes, cost, paper))
            self.takes_not(LANE, LANE_STAND, [(1, (1, 0))], by, (word if word != "none" else "row", paper))

    def test_no_stands_of_the_hall(self):
        by, pushes, cost, paper = next(self.both())
        for stand in (((2, 0), (2, 0)), ((5, 0), (0, 0)), ((-1, 0), (2, 0)), ((0, 0),), ((0, 0), (2, 0), (3, 0)), ()):
            self.refuses(by, pushes, cost, paper + [(stand, (9, 9))])


class TestWrongInputs(Case):
    def test_things(self):
        for thing in THINGS:
            for by in ("pushes", "steps"):
                self.takes_not(LANE, LANE_STAND, LANE_GOALS, by, thing)
                self.takes_not(SHORT, SHORT_STAND, [], by, thing)

    def test_each_part_spoiled(self):
        hall, stand = (4, 1, (), (MIGHTY, BLUNT)), ((0, 0), (2, 0))
        met = [(1, (3, 0)), (0, (1, 0))]
        for goals, by in ((met, "pushes"), (met, "steps"), ([(1, (1, 0))], "steps"), ([], "pushes")):
            told = least(hall, stand, goals, by)
            answers = [self.answers(hall, stand, goals, by, thing) for thing in spoiled(told)]
            self.assertGreater(answers.count(False), 1000)
            self.assertLess(answers.count(True), 200)

    def test_true_and_false_are_no_numbers(self):
        paper = [(((0, 0),), (1, 1)), (((1, 0),), (0, 0)), (((2, 0),), (1, 1))]
        told = ("row", [(0, EAST, 1)], (1, 1), paper)
        goals = [(0, (2, 0))]
        self.takes(SHORT, SHORT_STAND, goals, "steps", told)
        for wrong in (
            ("row", [(False, EAST, 1)], (1, 1), paper), ("row", [(0, False, 1)], (1, 1), paper),
            ("row", [(0, EAST, True)], (1, 1), paper), ("row", [(0, EAST, 1)], (True, 1), paper),
            ("row", [(0, EAST, 1)], (1, True), paper),
            ("row", [(0, EAST, 1)], (1, 1), [(((0, 0),), (1, True))] + paper[1:]),
            ("row", [(0, EAST, 1)], (1, 1), [(((0, False),), (1, 1))] + paper[1:]),
            ("row", [(0, EAST, 1)], (1, 1), paper[:1] + [(((True, 0),), (0, 0))] + paper[2:]),
            ("row", [(0, EAST, 1)], (1, 1), paper[:1] + [(((1, 0),), (False, 0))] + paper[2:]),
        ):
            self.takes_not(SHORT, SHORT_STAND, goals, "steps", wrong)

    def test_some_spoiled_in_some_halls(self):
        chance = random.Random(23)
        taken = 0
        for hall, stand in SMALL_HALLS:
            goals = some_goals(chance, hall, stand, chance.choice((0, 1, 1, 2)))
            by = chance.choice(("pushes", "steps"))
            told = least(hall, stand, goals, by)
            paper = list(told[-1])
            for k in range(12):
                number = chance.randrange(len(paper))
                end, cost = paper[number]
                cost = (cost[0] + chance.choice((-1, 0, 1)), cost[1] + chance.choice((-1, 0, 1)))
                changed = told[:-1] + (with_cost(paper, number, cost),)
                taken += self.answers(hall, stand, goals, by, changed)
        self.assertGreater(taken, 100)


class TestTold(Case):
    def test_nothing_handed_in_is_changed(self):
        for goals in (LANE_GOALS, [(1, (1, 0))]):
            told = least(LANE, LANE_STAND, goals, "steps")
            before = copy.deepcopy((LANE, LANE_STAND, goals, told))
            for k in range(2):
                self.takes(LANE, LANE_STAND, goals, "steps", told)
                self.assertEqual((LANE, LANE_STAND, goals, told), before)

    def test_two_thousand_stands(self):
        hall, stand = shelf_hall((5, 5, 5, 8, 2))
        goals = [(0, (8, 0)), (3, (3, 3))]
        told = least(hall, stand, goals, "pushes")
        self.assertIs(shows_least(hall, stand, goals, "pushes", told), True)


if __name__ == "__main__":
    unittest.main()
