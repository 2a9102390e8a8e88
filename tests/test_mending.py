import copy
import random
import unittest

from plain import (
    BLUNT, EAST, MIGHTY, NORTH, ONE_WAY_HALLS, ROOMS, ROOMS_STAND, SMALL_HALLS, SOME_HALLS, WEAK, WEST, paper_is_right,
    plain_come_to, plain_ends, plain_is_stand, plain_meets, plain_shows_least, shelf_hall, some_goals,
)
from slidehall.errors import HallError, NoRoom, TooMany
from slidehall.leasts import least
from slidehall.mending import mended, put_in
from slidehall.rows import played

# The dull one is pushed east by the strong one and never comes back.
LANE, LANE_STAND = (5, 1, (), (MIGHTY, BLUNT)), ((0, 0), (1, 0))
TWO_THOUSAND, TWO_THOUSAND_STAND = shelf_hall((5, 5, 5, 8, 2))


class TestPutIn(unittest.TestCase):
    HALL, STAND = (4, 3, ((1, 1),), (WEAK, (2, 1, "row", 1))), ((0, 0), (2, 2))

    def test_one_more(self):
        for kind, place in (((1, 1, "any", 0), (0, 1)), ((1, 2, "column", -1), (0, 1)), ((2, 2, "none", 1), (2, 0)),
                            ((3, 1, "any", 0), (1, 0))):
            told = put_in(self.HALL, self.STAND, kind, place)
            self.assertEqual(told, ((4, 3, ((1, 1),), self.HALL[3] + (kind,)), self.STAND + (place,)))
            self.assertIsInstance(told, tuple)

    def test_beyond_the_hall(self):
        for place in ((-1, 0), (0, -1), (4, 0), (0, 3), (10 ** 30, 0), (0, -(10 ** 30))):
            self.assertRaises(NoRoom, put_in, self.HALL, self.STAND, WEAK, place)
        for kind, place in (((2, 1, "any", 0), (3, 0)), ((1, 2, "any", 0), (0, 2)), ((2, 1, "any", 0), (-1, 1))):
            self.assertRaises(NoRoom, put_in, self.HALL, self.STAND, kind, place)

    def test_on_a_wall(self):
        for kind, place in ((WEAK, (1, 1)), ((2, 1, "any", 0), (0, 1)), ((2, 2, "any", 0), (1, 0))):
            self.assertRaises(NoRoom, put_in, self.HALL, self.STAND, kind, place)

    def test_on_a_covered_cell(self):
        for kind, place in ((WEAK, (0, 0)), (WEAK, (3, 2)), (WEAK, (2, 2)), ((1, 3, "any", 0), (3, 0)),
                            ((2, 1, "any", 0), (0, 0))):
            self.assertRaises(NoRoom, put_in, self.HALL, self.STAND, kind, place)

    def test_greater_than_the_hall(self):
        for kind in ((5, 1, "any", 0), (1, 4, "any", 0), (9, 9, "none", -1)):
            self.assertRaises(NoRoom, put_in, (4, 3, (), ()), (), kind, (0, 0))

    def test_into_a_hall_of_no_trolleys(self):
        self.assertEqual(put_in((2, 1, (), ()), (), BLUNT, (1, 0)), ((2, 1, (), (BLUNT,)), ((1, 0),)))
        told = put_in((2, 1, (), ()), (), (2, 1, "any", 1), (0, 0))
        self.assertEqual(told, ((2, 1, (), ((2, 1, "any", 1),)), ((0, 0),)))
        self.assertRaises(NoRoom, put_in, (1, 1, ((0, 0),), ()), (), BLUNT, (0, 0))

    def test_beyond_twelve(self):
        hall, stand = (13, 1, (), (WEAK,) * 12), tuple((x, 0) for x in range(12))
        self.assertEqual(put_in(hall, stand, WEAK, (12, 0))[1], stand + ((12, 0),))

    def test_refusal(self):
        try:
            put_in(self.HALL, self.STAND, WEAK, (1, 1))
        except HallError as refusal:
            self.assertIs(refusal.__class__, NoRoom)
        else:
            self.fail()

    def test_by_the_words(self):
        chance = random.Random(4)
        done = 0
        for hall, stand in SOME_HALLS:
            kind = (chance.randint(1, 3), chance.randint(1, 3), "any", 0)
            for place in ((x, y) for x in range(-1, hall[0] + 1) for y in range(-1, hall[1] + 1)):
                expected = (hall[:3] + (hall[3] + (kind,),), stand + (place,))
                if plain_is_stand(*expected):
                    self.assertEqual(put_in(hall, stand, kind, place), expected)
                    done += 1
                else:
                    self.assertRaises(NoRoom, put_in, hall, stand, kind, place)
        self.assertGreater(done, 500)


def plain_many(hall, stand, pushes, goals):
    # The greatest number by the words, None where there is none.
    best = None
    for many in range(len(pushes) + 1):
        end = stand
        for push in pushes[:many]:
            end = dict(plain_ends(hall, end)).get(push)
            if end is None:
                return best
        if any(plain_meets(hall, other, goals) for other in plain_come_to(hall, end)):
            best = many
    return best


class TestMended(unittest.TestCase):
    def told(self, hall, stand, pushes, goals, by):
        told = mended(hall, stand, pushes, goals, by)
        self.assertIsInstance(told, tuple)
        many, its_told = told
        self.assertIs(many.__class__, int)
        end = played(hall, stand, pushes[:many])[-1]
        self.assertTrue(plain_shows_least(hall, end, goals, by, its_told))
        return many, its_told[0], its_told[1:-1]

    def test_no_pushes(self):
        for by, cost in (("pushes", (1, 3)), ("steps", (3, 1))):
            told = self.told(LANE, LANE_STAND, [], [(1, (4, 0))], by)
            self.assertEqual(told, (0, "row", ([(0, EAST, 3)], cost)))
            self.assertEqual(self.told(LANE, LANE_STAND, [], [], by), (0, "row", ([], (0, 0))))
            self.assertEqual(self.told(LANE, LANE_STAND, [], [(1, (0, 0))], by), (0, "none", ()))

    def test_all_kept(self):
        pushes = [(0, EAST, 1), (0, EAST, 1)]
        told = self.told(LANE, LANE_STAND, pushes, [(1, (4, 0))], "pushes")
        self.assertEqual(told, (2, "row", ([(0, EAST, 1)], (1, 1))))
        # What is met already needs no more.
        told = self.told(LANE, LANE_STAND, pushes, [(1, (3, 0)), (0, (2, 0))], "pushes")
        self.assertEqual(told, (2, "row", ([], (0, 0))))
        self.assertEqual(self.told(LANE, LANE_STAND, pushes, [], "steps"), (2, "row", ([], (0, 0))))

    def test_first_one_not_let_by(self):
        for push in ((1, EAST, 1), (0, EAST, 4), (0, NORTH, 1), (0, WEST, 1)):
            told = self.told(LANE, LANE_STAND, [push, (0, EAST, 1)], [(1, (3, 0))], "steps")
            self.assertEqual(told, (0, "row", ([(0, EAST, 2)], (2, 1))))

    def test_later_one_not_let_by(self):
        pushes = [(0, EAST, 1), (0, EAST, 9), (0, WEST, 1)]
        told = self.told(LANE, LANE_STAND, pushes, [(1, (3, 0))], "steps")
        self.assertEqual(told, (1, "row", ([(0, EAST, 1)], (1, 1))))

    def test_met_from_behind_fewer_pushes_only(self):
        pushes = [(0, EAST, 1), (0, WEST, 1), (0, EAST, 2), (0, WEST, 1), (0, WEST, 1)]
        told = self.told(LANE, LANE_STAND, pushes, [(1, (2, 0))], "pushes")
        self.assertEqual(told, (2, "row", ([], (0, 0))))
        told = self.told(LANE, LANE_STAND, pushes, [(1, (1, 0))], "pushes")
        self.assertEqual(told, (0, "row", ([], (0, 0))))
        told = self.told(LANE, LANE_STAND, pushes, [(1, (3, 0))], "pushes")
        self.assertEqual(told, (5, "row", ([], (0, 0))))

    def test_never_met(self):
        for pushes in ([], [(0, EAST, 1)], [(0, EAST, 3)], [(1, EAST, 1)]):
            for goals in ([(1, (0, 0))], [(0, (4, 0))], [(0, (0, 0)), (0, (1, 0))]):
                for by in ("pushes", "steps"):
                    told = mended(LANE, LANE_STAND, pushes, goals, by)
                    self.assertEqual(told, (0, least(LANE, LANE_STAND, goals, by)))
                    self.assertEqual(told[1][0], "none")
                    self.assertTrue(paper_is_right(LANE, LANE_STAND, goals, by, told[1][1], None))

    def test_behind_one_put_in(self):
        hall, stand = (5, 2, (), (WEAK,)), ((0, 0),)
        goals = [(0, (4, 0))]
        row = least(hall, stand, goals, "pushes")[1]
        self.assertEqual(row, [(0, EAST, 4)])
        hall, stand = put_in(hall, stand, BLUNT, (2, 0))
        told = self.told(hall, stand, [(0, EAST, 1), (0, EAST, 3)], goals, "pushes")
        self.assertEqual(told[:2], (1, "row"))
        self.assertEqual(told[2][1], (3, 5))
        hall, stand = put_in(hall, stand, BLUNT, (2, 1))
        self.assertEqual(self.told(hall, stand, row, goals, "pushes"), (0, "none", ()))

    def test_no_trolleys(self):
        self.assertEqual(mended((2, 2, (), ()), (), [], [], "steps"), (0, ("row", [], (0, 0), [((), (0, 0))])))

    def test_too_many_by_what_is_come_to_from_the_stand(self):
        for pushes in ([], [(0, EAST, 1)], [(2, NORTH, 9)]):
            for goals in ([], [(0, (8, 8))]):
                self.assertRaises(TooMany, mended, ROOMS, ROOMS_STAND, pushes, goals, "steps")
        # Behind the pushes few are come to, but from the stand too many.
        hall = (9, 3, (), ((1, 1, "row", 1), (1, 1, "row", -1)) * 3)
        stand = tuple((x, y) for y in range(3) for x in range(2))
        pushes = [(n, EAST, 7) for n in (0, 2, 4)]
        goals = [(n, (8, y)) for y, n in enumerate((1, 3, 5))]
        end = played(hall, stand, pushes)[-1]
        self.assertEqual(len(plain_come_to(hall, end)), 512)
        self.assertEqual(least(hall, end, goals, "steps")[2], (0, 0))
        self.assertRaises(TooMany, mended, hall, stand, pushes, goals, "steps")
        self.assertEqual(mended(hall, end, [], goals, "steps")[1][2], (0, 0))

    def test_two_thousand(self):
        told = mended(TWO_THOUSAND, TWO_THOUSAND_STAND, [(0, EAST, 4)], [(0, (8, 0)), (1, (8, 1))], "steps")
        self.assertEqual((told[0], told[1][:3]), (1, ("row", [(1, EAST, 4)], (4, 1))))

    def test_by_the_words(self):
        chance = random.Random(6)
        fewer = none = 0
        for hall, stand in ONE_WAY_HALLS + SMALL_HALLS[:40]:
            goals = some_goals(chance, hall, stand, chance.choice((1, 1, 2)))
            pushes, end = [], stand
            for k in range(chance.randint(0, 6)):
                if plain_ends(hall, end):
                    push, end = chance.choice(plain_ends(hall, end))
                    pushes.append(push)
            if pushes and chance.random() < 0.3:
                pushes.insert(chance.randint(0, len(pushes)), (0, chance.randrange(4), chance.randint(1, 9)))
            by = chance.choice(("pushes", "steps"))
            many, word, row = self.told(hall, stand, pushes, goals, by)
            expected = plain_many(hall, stand, pushes, goals)
            self.assertEqual((many, word), (expected or 0, "none" if expected is None else "row"))
            fewer += word == "row" and many < len(pushes)
            none += word == "none"
        self.assertGreater(fewer, 5)
        self.assertGreater(none, 5)


class TestTold(unittest.TestCase):
    PUSHES, GOALS = [(0, EAST, 1), (0, EAST, 9)], [(1, (4, 0))]

    def test_nothing_handed_in_is_changed(self):
        before = copy.deepcopy((LANE, LANE_STAND, self.PUSHES, self.GOALS))
        mended(LANE, LANE_STAND, self.PUSHES, self.GOALS, "steps")
        mended(LANE, LANE_STAND, self.PUSHES[:1], self.GOALS, "steps")
        put_in(LANE, LANE_STAND, WEAK, (3, 0))
        self.assertEqual((LANE, LANE_STAND, self.PUSHES, self.GOALS), before)

    def test_told_anew(self):
        for goals in (self.GOALS, [(1, (0, 0))]):
            for number in (1, -1):
                told = mended(LANE, LANE_STAND, self.PUSHES, goals, "steps")
                before = copy.deepcopy(told)
                told[1][number].append("more")
                self.assertEqual(mended(LANE, LANE_STAND, self.PUSHES, goals, "steps"), before)


if __name__ == "__main__":
    unittest.main()
