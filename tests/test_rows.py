import copy
import random
import unittest

from plain import (
    BLUNT, EAST, MIGHTY, NORTH, SMALL_HALLS, SOME_HALLS, SOUTH, WEAK, WEST, cells_of, plain_ends, plain_meets,
)
from slidehall.errors import Barred
from slidehall.pushing import back_of, pushed
from slidehall.rows import cost_of, meets, played, put_together, taken_back

LANE = (6, 1, (), (WEAK,))
PUSHERS = (8, 2, (), (MIGHTY, WEAK, BLUNT))
PUSHERS_STAND = ((0, 0), (2, 0), (5, 0))


def some_row(chance, hall, stand, many):
    # A row that is let by, with the stands behind its pushes.
    row, stands = [], [stand]
    ends = plain_ends(hall, stand)
    while ends and len(row) < many:
        push, end = chance.choice(ends)
        row.append(push)
        stands.append(end)
        ends = plain_ends(hall, end)
    return row, stands


SOME_ROWS = [
    (hall, stand) + some_row(random.Random(seed), hall, stand, 8)
    for seed, (hall, stand) in enumerate(SMALL_HALLS + SOME_HALLS[:60])
]


class Case(unittest.TestCase):
    def barred_at(self, push, step, hall, stand, pushes):
        for asked in (played, taken_back):
            with self.assertRaises(Barred) as caught:
                asked(hall, stand, pushes)
            self.assertEqual((caught.exception.push, caught.exception.step), (push, step))


class TestPlayed(Case):
    def test_no_pushes(self):
        self.assertEqual(played(LANE, ((2, 0),), []), [((2, 0),)])
        self.assertEqual(played((1, 1, (), ()), (), []), [()])

    def test_ordinary(self):
        pushes = [(0, EAST, 3), (0, WEST, 1), (1, NORTH, 1)]
        told = played(PUSHERS, PUSHERS_STAND, pushes)
        self.assertEqual(told, [
            ((0, 0), (2, 0), (5, 0)), ((3, 0), (4, 0), (5, 0)), ((2, 0), (4, 0), (5, 0)), ((2, 0), (4, 1), (5, 0)),
        ])

    def test_three_hundred_pushes(self):
        pushes = [(0, EAST, 2), (0, WEST, 1), (0, WEST, 1)] * 100
        told = played(LANE, ((1, 0),), pushes)
        self.assertEqual(told, [((1, 0),)] + [((3, 0),), ((2, 0),), ((1, 0),)] * 100)

    def test_first_push_barred(self):
        self.barred_at(0, 0, LANE, ((5, 0),), [(0, EAST, 1)])
        self.barred_at(0, 4, LANE, ((1, 0),), [(0, EAST, 7), (0, EAST, 9)])

    def test_later_push_barred(self):
        self.barred_at(1, 3, LANE, ((0, 0),), [(0, EAST, 2), (0, EAST, 4), (0, EAST, 4)])
        self.barred_at(2, 0, PUSHERS, PUSHERS_STAND, [(0, EAST, 3), (1, NORTH, 1), (2, EAST, 1), (2, EAST, 1)])
        self.barred_at(1, 2, PUSHERS, PUSHERS_STAND, [(0, EAST, 3), (0, EAST, 3)])

    def test_last_of_three_hundred_barred(self):
        pushes = [(0, EAST, 1), (0, WEST, 1)] * 149 + [(0, EAST, 4), (0, EAST, 2)]
        self.barred_at(299, 1, LANE, ((0, 0),), pushes)

    def test_by_the_words(self):
        for hall, stand, row, stands in SOME_ROWS:
            self.assertEqual(played(hall, stand, row), stands)
            for n in range(len(stand)):
                let_by = [push[2] for push, end in plain_ends(hall, stands[-1]) if push[:2] == (n, NORTH)]
                step = max(let_by, default=0)
                self.barred_at(len(row), step, hall, stand, row + [(n, NORTH, step + 1), (n, NORTH, 99)])


class TestTakenBack(Case):
    def test_no_pushes(self):
        self.assertEqual(taken_back(LANE, ((2, 0),), []), [])

    def test_from_the_last_to_the_first(self):
        told = taken_back(PUSHERS, PUSHERS_STAND, [(0, EAST, 1), (1, NORTH, 1), (0, EAST, 2), (1, WEST, 2)])
        self.assertEqual(told, [(1, EAST, 2), (0, WEST, 2), (1, SOUTH, 1), (0, WEST, 1)])

    def test_none_where_one_cant_be(self):
        self.assertIsNone(taken_back(PUSHERS, PUSHERS_STAND, [(0, EAST, 2)]))
        self.assertIsNone(taken_back(PUSHERS, PUSHERS_STAND, [(1, NORTH, 1), (0, EAST, 5), (0, WEST, 1)]))
        self.assertIsNone(taken_back(PUSHERS, PUSHERS_STAND, [(0, EAST, 1), (0, EAST, 1)]))

    def test_refused_ahead_of_none(self):
        # The first push takes others along, so it can't be taken back; a later one is barred.
        self.barred_at(1, 0, PUSHERS, PUSHERS_STAND, [(0, EAST, 2), (2, NORTH, 1)])
        self.barred_at(2, 1, PUSHERS, PUSHERS_STAND, [(0, EAST, 2), (0, WEST, 1), (0, NORTH, 2)])
        self.barred_at(0, 5, PUSHERS, PUSHERS_STAND, [(0, EAST, 6), (0, EAST, 2)])

    def test_three_hundred_pushes(self):
        told = taken_back(LANE, ((0, 0),), [(0, EAST, 2), (0, EAST, 1), (0, WEST, 3)] * 100)
        self.assertEqual(told, [(0, EAST, 3), (0, WEST, 1), (0, WEST, 2)] * 100)

    def test_by_the_words(self):
        nones = 0
        for hall, stand, row, stands in SOME_ROWS:
            for many in range(len(row) + 1):
                backs = [back_of(hall, stands[k], row[k]) for k in range(many)]
                told = taken_back(hall, stand, row[:many])
                if None in backs:
                    nones += 1
                    self.assertIsNone(told)
                else:
                    self.assertEqual(told, backs[::-1])
                    self.assertEqual(played(hall, stands[many], told), stands[many::-1])
        self.assertGreater(nones, 50)


class TestPutTogether(unittest.TestCase):
    def test_none_and_one(self):
        self.assertEqual(put_together([]), [])
        self.assertEqual(put_together([(3, WEST, 2)]), [(3, WEST, 2)])

    def test_two(self):
        self.assertEqual(put_together([(0, EAST, 2), (0, EAST, 3)]), [(0, EAST, 5)])

    def test_three_and_more(self):
        self.assertEqual(put_together([(0, EAST, 1), (0, EAST, 1), (0, EAST, 2)]), [(0, EAST, 4)])
        pushes = [(1, NORTH, 1)] + [(0, EAST, k) for k in range(1, 6)] + [(1, NORTH, 2), (1, NORTH, 2)]
        self.assertEqual(put_together(pushes), [(1, NORTH, 1), (0, EAST, 15), (1, NORTH, 4)])
        self.assertEqual(put_together([(2, SOUTH, 1)] * 300), [(2, SOUTH, 300)])

    def test_neighbours_only_when_others_are_put_together(self):
        # Four alike: the second pair, put together, is a neighbour of the first pair put together.
        pushes = [(0, EAST, 1), (0, EAST, 2), (0, EAST, 3), (0, EAST, 4), (1, EAST, 1), (0, EAST, 5)]
        self.assertEqual(put_together(pushes), [(0, EAST, 10), (1, EAST, 1), (0, EAST, 5)])

    def test_opposite_ones_stay(self):
        pushes = [(0, EAST, 2), (0, WEST, 2), (0, EAST, 2)]
        self.assertEqual(put_together(pushes), pushes)
        pushes = [(0, EAST, 1), (0, EAST, 1), (0, WEST, 2), (0, WEST, 1), (0, EAST, 3)]
        self.assertEqual(put_together(pushes), [(0, EAST, 2), (0, WEST, 3), (0, EAST, 3)])

    def test_others_stay(self):
        pushes = [(0, EAST, 1), (1, EAST, 1), (0, EAST, 1), (0, NORTH, 1), (1, NORTH, 1), (1, EAST, 1)]
        self.assertEqual(put_together(pushes), pushes)

    def test_leads_to_the_same_stand(self):
        chance = random.Random(7)
        joined = 0
        for hall, stand, row, stands in SOME_ROWS:
            parted = []
            for n, direction, many in row:
                cut = chance.randint(0, many - 1)
                parted += [(n, direction, cut)] if cut else []
                parted += [(n, direction, many - cut)]
            together = put_together(parted)
            joined += len(together) < len(parted)
            self.assertEqual(together, put_together(row))
            self.assertEqual(played(hall, stand, together)[-1], stands[-1])
            self.assertTrue(all(a[:2] != b[:2] for a, b in zip(together, together[1:])))
        self.assertGreater(joined, 30)


class TestCostOf(unittest.TestCase):
    def test_none(self):
        self.assertEqual(cost_of([], "pushes"), (0, 0))
        self.assertEqual(cost_of([], "steps"), (0, 0))

    def test_ordinary(self):
        pushes = [(0, EAST, 3), (5, NORTH, 1), (0, EAST, 4)]
        self.assertEqual(cost_of(pushes, "pushes"), (3, 8))
        self.assertEqual(cost_of(pushes, "steps"), (8, 3))

    def test_three_hundred(self):
        pushes = [(0, EAST, 8), (0, WEST, 7)] * 150
        self.assertEqual(cost_of(pushes, "pushes"), (300, 2250))
        self.assertEqual(cost_of(pushes, "steps"), (2250, 300))


class TestMeets(unittest.TestCase):
    HALL = (6, 5, ((5, 4),), ((2, 3, "any", 0), (1, 1, "row", -1)))
    STAND = ((1, 1), (0, 0))

    def test_no_goals(self):
        self.assertIs(meets(self.HALL, self.STAND, []), True)
        self.assertIs(meets((1, 1, (), ()), (), []), True)

    def test_each_cell(self):
        for x in range(6):
            for y in range(5):
                covers = (x, y) in ((1, 1), (1, 2), (1, 3), (2, 1), (2, 2), (2, 3))
                self.assertIs(meets(self.HALL, self.STAND, [(0, (x, y))]), covers)
                self.assertIs(meets(self.HALL, self.STAND, [(1, (x, y))]), (x, y) == (0, 0))

    def test_two_for_one_trolley(self):
        self.assertIs(meets(self.HALL, self.STAND, [(0, (1, 1)), (0, (2, 3))]), True)
        self.assertIs(meets(self.HALL, self.STAND, [(0, (1, 1)), (0, (3, 3))]), False)
        self.assertIs(meets(self.HALL, self.STAND, [(1, (0, 0)), (1, (0, 1))]), False)

    def test_one_goal_twice(self):
        self.assertIs(meets(self.HALL, self.STAND, [(1, (0, 0)), (1, (0, 0))]), True)

    def test_one_cell_for_two(self):
        self.assertIs(meets(self.HALL, self.STAND, [(0, (1, 1)), (1, (1, 1))]), False)

    def test_on_a_wall(self):
        self.assertIs(meets(self.HALL, ((3, 2), (0, 0)), [(0, (5, 4))]), False)
        self.assertIs(meets(self.HALL, self.STAND, [(0, (1, 1)), (0, (5, 4))]), False)

    def test_each_must_be_met(self):
        goals = [(0, (1, 1)), (1, (0, 0)), (0, (2, 2))]
        self.assertIs(meets(self.HALL, self.STAND, goals), True)
        for k in range(3):
            wrong = goals[:k] + [(goals[k][0], (5, 0))] + goals[k + 1:]
            self.assertIs(meets(self.HALL, self.STAND, wrong), False)

    def test_twelve_goals(self):
        hall = (4, 3, (), (WEAK,) * 12)
        stand = tuple((x, y) for x in range(4) for y in range(3))
        goals = [(n, stand[n]) for n in range(12)]
        self.assertIs(meets(hall, stand, goals[::-1]), True)
        self.assertIs(meets(hall, stand, goals[:11] + [(10, stand[11])]), False)

    def test_by_the_words(self):
        chance = random.Random(3)
        for hall, stand in SOME_HALLS:
            for many in range(5):
                goals = []
                for k in range(many if stand else 0):
                    n = chance.randrange(len(stand))
                    goals.append((n, chance.choice(sorted(cells_of(hall[3][n], stand[n])) * 9 + [(0, 0)])))
                self.assertIs(meets(hall, stand, goals), plain_meets(hall, stand, goals))


class TestTold(unittest.TestCase):
    def test_nothing_handed_in_is_changed(self):
        pushes = [(0, EAST, 1), (1, NORTH, 1), (0, EAST, 1), (0, EAST, 1)]
        goals = [(0, (3, 0)), (1, (2, 1))]
        before = copy.deepcopy((PUSHERS, PUSHERS_STAND, pushes, goals))
        played(PUSHERS, PUSHERS_STAND, pushes)
        taken_back(PUSHERS, PUSHERS_STAND, pushes)
        put_together(pushes)
        cost_of(pushes, "steps")
        meets(PUSHERS, PUSHERS_STAND, goals)
        self.assertEqual((PUSHERS, PUSHERS_STAND, pushes, goals), before)

    def test_told_anew(self):
        pushes = [(0, EAST, 1), (1, NORTH, 1)]
        for asked in (
            lambda: played(PUSHERS, PUSHERS_STAND, pushes), lambda: taken_back(PUSHERS, PUSHERS_STAND, pushes),
            lambda: put_together(pushes), lambda: put_together([]), lambda: taken_back(PUSHERS, PUSHERS_STAND, []),
        ):
            told = asked()
            before = list(told)
            self.assertIsNot(told, pushes)
            told.append("more")
            self.assertEqual(asked(), before)
            self.assertEqual(pushes, [(0, EAST, 1), (1, NORTH, 1)])

    def test_told_is_handed_in_again(self):
        pushes = [(0, EAST, 1), (1, NORTH, 1)]
        stands = played(PUSHERS, PUSHERS_STAND, pushes)
        backs = taken_back(PUSHERS, PUSHERS_STAND, pushes)
        self.assertEqual(played(PUSHERS, stands[-1], backs), stands[::-1])
        self.assertEqual(pushed(PUSHERS, stands[0], put_together(pushes)[0]), stands[1])


if __name__ == "__main__":
    unittest.main()
