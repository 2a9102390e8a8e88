import copy
import itertools
import random
import unittest

from plain import SMALL_HALLS, SOME_HALLS, WEAK, cells_of, plain_floor, some_hall, walled
from plaintexts import plain_all_stands
from slidehall.errors import HallError, NoStand, TooMany
from slidehall.halls import fault_of
from slidehall.numbering import many_stands, number_of, stand_of


def kinds_of(*sizes):
    return tuple(size + ("any", 0) for size in sizes)


# All of one size each.
JUST_ENOUGH = (6, 6, walled(["...#..", "......", "......", "......", "......", "..#..."]),
               kinds_of((2, 2), (2, 1), (3, 1)))
ONE_TOO_MANY = (6, 6, walled(["..#...", ".#..#.", ".....#", "......", "......", "......"]),
                kinds_of((1, 3), (2, 1), (1, 2)))
# Two of one size, so the counts are even.
JUST_ENOUGH_ALIKE = (6, 6, walled(["..#...", ".....#", "#.....", "......", "...#..", "......"]),
                     kinds_of((1, 2), (1, 2), (3, 1)))
TWO_TOO_MANY_ALIKE = (6, 6, walled(["....#.", ".....#", "......", "......", "....#.", ".#...."]),
                      kinds_of((1, 2), (2, 2), (1, 2)))
# Halls that have no stand.
STANDLESS = (
    (2, 2, (), kinds_of((3, 1))), (2, 2, (), kinds_of((1, 3))), (1, 1, ((0, 0),), (WEAK,)),
    (2, 1, (), kinds_of((2, 1), (1, 1))), (9, 9, (), kinds_of((9, 1), (1, 9))), (9, 9, (), kinds_of((5, 5), (5, 5))),
    (3, 3, ((1, 1),), kinds_of((2, 2))), (4, 4, (), kinds_of((9, 9))),
)


def fast_count(hall):
    # By sizes in their order, with sets of cells; fast enough for some thousands.
    floor = plain_floor(hall)

    def below(n, taken):
        if n == len(hall[3]):
            return 1
        places = [cells_of(hall[3][n], cell) for cell in sorted(floor)]
        return sum(below(n + 1, taken | cells) for cells in places if cells <= floor and not cells & taken)

    return below(0, set())


class TestManyStands(unittest.TestCase):
    def test_without_trolleys(self):
        self.assertEqual(many_stands((1, 1, (), ())), 1)
        self.assertEqual(many_stands((1, 1, ((0, 0),), ())), 1)
        self.assertEqual(many_stands((9, 9, (), ())), 1)

    def test_no_stand(self):
        for hall in STANDLESS:
            self.assertEqual(many_stands(hall), 0)

    def test_no_stand_among_many_trolleys(self):
        # That the great one finds no place is seen ahead of all the places of the small ones.
        self.assertEqual(many_stands((8, 9, (), (WEAK,) * 11 + kinds_of((9, 1)))), 0)
        self.assertEqual(many_stands((9, 9, (), (WEAK,) * 10 + kinds_of((5, 5), (5, 5)))), 0)
        self.assertEqual(many_stands((9, 9, (), (WEAK,) * 10 + kinds_of((9, 1), (1, 9)))), 0)
        self.assertEqual(many_stands((9, 9, (), kinds_of((9, 9)) + (WEAK,) * 11)), 0)
        # Twelve upright and lying ones that would cover five by five cells but one, as a chess board shows they can't.
        self.assertEqual(many_stands((5, 5, ((0, 1),), kinds_of((2, 1), (1, 2)) * 6)), 0)

    def test_ordinary(self):
        self.assertEqual(many_stands((3, 2, (), (WEAK,))), 6)
        self.assertEqual(many_stands((3, 2, ((1, 0),), (WEAK,))), 5)
        self.assertEqual(many_stands((3, 2, (), (WEAK, WEAK))), 30)
        self.assertEqual(many_stands((2, 2, (), (WEAK,) * 4)), 24)
        self.assertEqual(many_stands((3, 1, (), kinds_of((2, 1), (1, 1)))), 2)

    def test_ways_and_strength_play_no_part(self):
        for ways in ("any", "row", "column", "none"):
            for strong in (1, 0, -1):
                self.assertEqual(many_stands((3, 3, (), ((1, 2, ways, strong), (2, 1, ways, strong)))), 20)
        self.assertEqual(many_stands((2, 2, (), ((1, 1, "none", 0), (1, 1, "any", 1)))), 12)

    def test_just_five_thousand(self):
        self.assertEqual(fast_count(JUST_ENOUGH), 5000)
        self.assertEqual(many_stands(JUST_ENOUGH), 5000)
        self.assertEqual(fast_count(JUST_ENOUGH_ALIKE), 5000)
        self.assertEqual(many_stands(JUST_ENOUGH_ALIKE), 5000)

    def test_more(self):
        self.assertEqual(fast_count(ONE_TOO_MANY), 5001)
        self.assertRaises(TooMany, many_stands, ONE_TOO_MANY)
        self.assertEqual(fast_count(TWO_TOO_MANY_ALIKE), 5002)
        self.assertRaises(TooMany, many_stands, TWO_TOO_MANY_ALIKE)
        for kinds in ((WEAK,) * 12, (WEAK,) * 3, kinds_of((1, 1), (2, 1), (1, 2), (2, 2), (3, 1), (1, 3), (3, 3))):
            self.assertRaises(TooMany, many_stands, (9, 9, (), kinds))
        # Seven of one size make more than 5,000 of one choice of places.
        self.assertRaises(TooMany, many_stands, (7, 1, (), (WEAK,) * 7))
        self.assertEqual(many_stands((6, 1, (), (WEAK,) * 6)), 720)

    def test_by_the_words(self):
        for hall in some_halls():
            self.assertEqual(many_stands(hall), len(plain_all_stands(hall)))


def some_halls():
    # Few enough stands to go through all choices of places.
    found = []
    for seed in range(400):
        chance = random.Random(seed)
        hall, stand = some_hall(chance, 4, 4)
        product = 1
        for kind in hall[3]:
            product *= max(1, (hall[0] - kind[0] + 1) * (hall[1] - kind[1] + 1))
        if product <= 3000:
            found.append(hall)
    return found


class TestNumbers(unittest.TestCase):
    def test_rising(self):
        hall = (2, 2, (), (WEAK, WEAK))
        stands = sorted(itertools.permutations([(0, 0), (0, 1), (1, 0), (1, 1)], 2))
        self.assertEqual([stand_of(hall, number) for number in range(12)], stands)
        self.assertEqual([number_of(hall, stand) for stand in stands], list(range(12)))

    def test_without_trolleys(self):
        self.assertEqual(number_of((2, 2, (), ()), ()), 0)
        self.assertEqual(stand_of((2, 2, (), ()), 0), ())
        self.assertRaises(NoStand, stand_of, (2, 2, (), ()), 1)

    def test_undo_one_another(self):
        some = 0
        for hall in some_halls()[::3]:
            stands = plain_all_stands(hall)
            for number in range(0, len(stands), max(1, len(stands) // 12)):
                self.assertEqual(stand_of(hall, number), stands[number])
                self.assertEqual(number_of(hall, stands[number]), number)
                some += 1
        self.assertGreater(some, 500)

    def test_over_all_numbers(self):
        hall = (3, 2, ((0, 1),), ((1, 1, "any", 0), (1, 2, "row", 1), (1, 1, "none", -1)))
        many = many_stands(hall)
        stands = [stand_of(hall, number) for number in range(many)]
        self.assertEqual(stands, plain_all_stands(hall))
        self.assertEqual(stands, sorted(set(stands)))
        self.assertEqual([number_of(hall, stand) for stand in stands], list(range(many)))
        self.assertTrue(all(fault_of(hall, stand) is None for stand in stands))

    def test_of_stands_that_are_never_come_to(self):
        hall = (2, 1, (), ((1, 1, "none", 0), (1, 1, "none", 0)))
        self.assertEqual([number_of(hall, stand) for stand in (((0, 0), (1, 0)), ((1, 0), (0, 0)))], [0, 1])

    def test_five_thousand(self):
        last = stand_of(JUST_ENOUGH, 4999)
        self.assertEqual(last, max(plain_all_stands(JUST_ENOUGH)))
        self.assertEqual(number_of(JUST_ENOUGH, last), 4999)
        self.assertEqual(stand_of(JUST_ENOUGH_ALIKE, 2500), plain_all_stands(JUST_ENOUGH_ALIKE)[2500])
        self.assertRaises(NoStand, stand_of, JUST_ENOUGH, 5000)

    def test_no_stand(self):
        hall = (3, 2, (), (WEAK, WEAK))
        for number in (-1, -30, 30, 31, 5000, 10 ** 30, -(10 ** 30)):
            self.assertRaises(NoStand, stand_of, hall, number)
        for hall in STANDLESS:
            for number in (-1, 0, 1):
                self.assertRaises(NoStand, stand_of, hall, number)

    def test_too_many(self):
        stand = min(plain_all_stands(ONE_TOO_MANY))
        self.assertRaises(TooMany, number_of, ONE_TOO_MANY, stand)
        # Ahead of NoStand.
        for number in (-1, 0, 1, 5000, 5001, 10 ** 30):
            self.assertRaises(TooMany, stand_of, ONE_TOO_MANY, number)
            self.assertRaises(TooMany, stand_of, (9, 9, (), (WEAK,) * 12), number)

    def test_refusals_stand_straight_under_hall_error(self):
        for refusal in (NoStand, TooMany):
            self.assertEqual(refusal.__bases__, (HallError,))

    def test_numbers_are_numbers(self):
        for hall, stand in SMALL_HALLS[:20] + SOME_HALLS[:20]:
            try:
                number = number_of(hall, stand)
            except TooMany:
                continue
            self.assertIs(number.__class__, int)
            self.assertIs(many_stands(hall).__class__, int)
            self.assertLess(number, many_stands(hall))
            self.assertEqual(stand_of(hall, number), stand)


class TestTold(unittest.TestCase):
    def test_nothing_handed_in_is_changed(self):
        hall, stand = (3, 2, (), (WEAK, WEAK)), ((0, 0), (2, 1))
        before = copy.deepcopy((hall, stand))
        for k in range(2):
            self.assertEqual(many_stands(hall), 30)
            self.assertEqual(stand_of(hall, number_of(hall, stand)), stand)
        self.assertEqual((hall, stand), before)


if __name__ == "__main__":
    unittest.main()
