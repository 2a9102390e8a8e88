import unittest

from plain import BLUNT, DIRECTIONS, EAST, MIGHTY, NORTH, SOME_HALLS, SOUTH, WEAK, WEST, plain_movers, plain_stands
from slidehall.errors import Barred, HallError
from slidehall.halls import is_hall, is_stand
from slidehall.pushing import all_pushes, back_of, gone_along, movers, pushed

OPPOSITE = (WEST, SOUTH, EAST, NORTH)


class Case(unittest.TestCase):
    def barred_at(self, step, asked, hall, stand, push):
        with self.assertRaises(Barred) as caught:
            asked(hall, stand, push)
        self.assertIsInstance(caught.exception, HallError)
        self.assertEqual((caught.exception.push, caught.exception.step), (0, step))

    def all_barred_at(self, step, hall, stand, push):
        for asked in (pushed, gone_along, back_of):
            self.barred_at(step, asked, hall, stand, push)


class TestMovers(Case):
    def test_alone(self):
        hall = (3, 3, (), (WEAK,))
        for direction in DIRECTIONS:
            self.assertEqual(movers(hall, ((1, 1),), 0, direction), (0,))

    def test_edge_of_the_hall(self):
        hall = (3, 2, (), ((3, 1, "any", 1),))
        told = [movers(hall, ((0, 0),), 0, direction) for direction in DIRECTIONS]
        self.assertEqual(told, [None, (0,), None, None])
        told = [movers(hall, ((0, 1),), 0, direction) for direction in DIRECTIONS]
        self.assertEqual(told, [None, None, None, (0,)])

    def test_one_cell(self):
        for direction in DIRECTIONS:
            self.assertIsNone(movers((1, 1, (), (MIGHTY,)), ((0, 0),), 0, direction))

    def test_walls(self):
        hall = (4, 4, ((0, 1), (3, 2)), ((2, 2, "any", 1),))
        told = [movers(hall, ((1, 1),), 0, direction) for direction in DIRECTIONS]
        self.assertEqual(told, [None, (0,), None, (0,)])

    def test_ways(self):
        expected = {
            "any": [(0,)] * 4, "row": [(0,), None, (0,), None],
            "column": [None, (0,), None, (0,)], "none": [None] * 4,
        }
        for ways, told in expected.items():
            for strong in (0, 1):
                hall = (3, 3, (), ((1, 1, ways, strong),))
                self.assertEqual([movers(hall, ((1, 1),), 0, direction) for direction in DIRECTIONS], told)

    def test_ways_of_those_that_go_along(self):
        expected = {"any": (0, 1), "row": (0, 1), "column": None, "none": None}
        for ways, told in expected.items():
            for strong in (1, 0, -1):
                hall = (3, 1, (), (MIGHTY, (1, 1, ways, strong)))
                self.assertEqual(movers(hall, ((0, 0), (1, 0)), 0, EAST), told)
        hall = (1, 3, (), (MIGHTY, (1, 1, "column", -1)))
        self.assertEqual(movers(hall, ((0, 0), (0, 1)), 0, NORTH), (0, 1))
        hall = (1, 3, (), (MIGHTY, (1, 1, "row", 1)))
        self.assertIsNone(movers(hall, ((0, 2), (0, 1)), 0, SOUTH))

    def test_dull_never_goes_by_itself(self):
        hall = (3, 3, (), (BLUNT,))
        for direction in DIRECTIONS:
            self.assertIsNone(movers(hall, ((1, 1),), 0, direction))

    def test_weak_goes_alone_only(self):
        for other in (WEAK, MIGHTY, BLUNT):
            hall = (3, 1, (), (WEAK, other))
            self.assertIsNone(movers(hall, ((0, 0), (1, 0)), 0, EAST))
            self.assertEqual(movers(hall, ((0, 0), (2, 0)), 0, EAST), (0,))
            self.assertEqual(movers(hall, ((1, 0), (0, 0)), 0, EAST), (0,))

    def test_long_row_met_one_by_the_other(self):
        for middle in (WEAK, MIGHTY, BLUNT):
            hall = (13, 1, (), (MIGHTY,) + (middle,) * 11)
            stand = tuple((n, 0) for n in range(12))
            self.assertEqual(movers(hall, stand, 0, EAST), tuple(range(12)))
            self.assertIsNone(movers((12,) + hall[1:], stand, 0, EAST))
            self.assertIsNone(movers(hall, stand, 0, WEST))
            turned = tuple((12 - n, 0) for n in range(12))
            self.assertEqual(movers(hall, turned, 0, WEST), tuple(range(12)))

    def test_gap_ends_a_row(self):
        hall = (9, 1, (), (MIGHTY,) * 5)
        self.assertEqual(movers(hall, ((0, 0), (1, 0), (2, 0), (4, 0), (5, 0)), 0, EAST), (0, 1, 2))

    def test_rising_whatever_the_row(self):
        hall = (5, 1, (), (WEAK, WEAK, MIGHTY, BLUNT))
        self.assertEqual(movers(hall, ((3, 0), (1, 0), (0, 0), (2, 0)), 2, EAST), (0, 1, 2, 3))

    def test_last_of_a_row_is_held(self):
        stand = tuple((n, 0) for n in range(4))
        row = (MIGHTY, WEAK, BLUNT)
        self.assertIsNone(movers((5, 1, ((4, 0),), row + (WEAK,)), stand, 0, EAST))
        self.assertIsNone(movers((5, 1, (), row + ((1, 1, "none", 0),)), stand, 0, EAST))
        self.assertIsNone(movers((5, 2, (), row + ((1, 1, "column", 1),)), stand, 0, EAST))
        self.assertEqual(movers((5, 2, (), row + ((1, 1, "row", 0),)), stand, 0, EAST), (0, 1, 2, 3))

    def test_wide_one_meets_several(self):
        hall = (3, 4, (), ((3, 1, "any", 1), WEAK, (1, 2, "any", 0), WEAK))
        stand = ((0, 0), (0, 1), (2, 1), (1, 2))
        self.assertEqual(movers(hall, stand, 0, NORTH), (0, 1, 2))
        self.assertIsNone(movers((3, 3) + hall[2:], stand, 0, NORTH))

    def test_bricks_spread(self):
        pair = (2, 1, "any", 0)
        hall = (6, 4, (), ((2, 1, "any", 1), pair, pair, pair, pair, pair))
        stand = ((2, 0), (1, 1), (3, 1), (0, 2), (2, 2), (4, 2))
        self.assertEqual(movers(hall, stand, 0, NORTH), (0, 1, 2, 3, 4, 5))
        self.assertIsNone(movers((6, 4, ((0, 3),), hall[3]), stand, 0, NORTH))
        self.assertIsNone(movers((6, 4, ((5, 3),), hall[3]), stand, 0, NORTH))

    def test_neighbours_beside_stay(self):
        hall = (3, 3, (), (MIGHTY, WEAK, WEAK, WEAK))
        self.assertEqual(movers(hall, ((1, 1), (1, 0), (1, 2), (0, 1)), 0, EAST), (0,))

    def test_great_hall(self):
        great = 10 ** 30
        hall = (great, great, (), (MIGHTY, WEAK))
        stand = ((great - 3, 5), (great - 2, 5))
        self.assertEqual(movers(hall, stand, 0, EAST), (0, 1))
        self.assertIsNone(movers(hall, ((great - 2, 5), (great - 1, 5)), 0, EAST))

    def test_by_the_words(self):
        for hall, stand in SOME_HALLS:
            for n in range(len(stand)):
                for direction in DIRECTIONS:
                    told = movers(hall, stand, n, direction)
                    self.assertEqual(told, plain_movers(hall, stand, n, direction), (hall, stand, n, direction))


class TestPushed(Case):
    def test_directions(self):
        hall = (5, 5, (), (WEAK,))
        ends = [pushed(hall, ((2, 2),), (0, direction, 2)) for direction in DIRECTIONS]
        self.assertEqual(ends, [((4, 2),), ((2, 4),), ((0, 2),), ((2, 0),)])

    def test_each_step_has_its_own_movers(self):
        hall = (8, 1, (), (MIGHTY, BLUNT, WEAK))
        stand = ((0, 0), (2, 0), (4, 0))
        ends = [((1, 0), (2, 0), (4, 0)), ((2, 0), (3, 0), (4, 0)), ((3, 0), (4, 0), (5, 0)),
                ((4, 0), (5, 0), (6, 0)), ((5, 0), (6, 0), (7, 0))]
        for many, end in enumerate(ends, 1):
            self.assertEqual(pushed(hall, stand, (0, EAST, many)), end)
            self.assertEqual(gone_along(hall, stand, (0, EAST, many)), ((0,), (0, 1), (0, 1, 2))[min(many, 3) - 1])
        for many in (6, 7, 300, 10 ** 30):
            self.all_barred_at(5, hall, stand, (0, EAST, many))

    def test_first_step_that_cant_be(self):
        self.all_barred_at(0, (1, 1, (), (MIGHTY,)), ((0, 0),), (0, NORTH, 1))
        self.all_barred_at(0, (3, 3, (), (BLUNT,)), ((1, 1),), (0, EAST, 1))
        self.all_barred_at(0, (3, 3, (), ((1, 1, "row", 1),)), ((1, 1),), (0, SOUTH, 2))
        self.all_barred_at(0, (3, 3, (), ((1, 1, "none", 1),)), ((1, 1),), (0, WEST, 2))
        self.all_barred_at(2, (5, 1, ((3, 0),), (WEAK,)), ((0, 0),), (0, EAST, 3))
        self.all_barred_at(4, (5, 1, (), (WEAK,)), ((0, 0),), (0, EAST, 9))

    def test_weak_comes_to_another(self):
        for other in (WEAK, MIGHTY, BLUNT):
            hall = (6, 1, (), (WEAK, other))
            self.assertEqual(pushed(hall, ((0, 0), (3, 0)), (0, EAST, 2)), ((2, 0), (3, 0)))
            self.all_barred_at(2, hall, ((0, 0), (3, 0)), (0, EAST, 3))

    def test_strong_comes_to_one_that_doesnt_go(self):
        hall = (6, 2, (), (MIGHTY, WEAK, (1, 1, "column", 0)))
        stand = ((0, 0), (2, 0), (4, 0))
        self.assertEqual(pushed(hall, stand, (0, EAST, 2)), ((2, 0), (3, 0), (4, 0)))
        self.all_barred_at(2, hall, stand, (0, EAST, 4))

    def test_great_hall(self):
        great = 10 ** 30
        hall = (great, 1, (), (WEAK,))
        self.assertEqual(pushed(hall, ((great - 8, 0),), (0, EAST, 7)), ((great - 1, 0),))
        self.all_barred_at(7, hall, ((great - 8, 0),), (0, EAST, great))

    def test_stand_is_a_tuple_of_tuples(self):
        hall, stand = (3, 1, (), (MIGHTY, WEAK)), ((0, 0), (1, 0))
        end = pushed(hall, stand, (0, EAST, 1))
        self.assertIsInstance(end, tuple)
        self.assertTrue(all(isinstance(place, tuple) for place in end))
        self.assertEqual(stand, ((0, 0), (1, 0)))

    def test_by_the_words(self):
        for hall, stand in SOME_HALLS:
            for n in range(len(stand)):
                for direction in DIRECTIONS:
                    ends = plain_stands(hall, stand, n, direction)
                    for many, end in enumerate(ends, 1):
                        told = pushed(hall, stand, (n, direction, many))
                        self.assertEqual(told, end)
                        self.assertIs(is_stand(hall, told), True)
                    self.all_barred_at(len(ends), hall, stand, (n, direction, len(ends) + 1))
                    self.barred_at(len(ends), pushed, hall, stand, (n, direction, len(ends) + 3))


class TestAllPushes(Case):
    def test_ordinary(self):
        hall = (3, 2, ((2, 1),), (MIGHTY, WEAK))
        told = all_pushes(hall, ((0, 0), (1, 0)))
        self.assertEqual(told, [(0, EAST, 1), (0, NORTH, 1), (1, EAST, 1), (1, NORTH, 1)])

    def test_none(self):
        self.assertEqual(all_pushes((3, 3, (), ()), ()), [])
        self.assertEqual(all_pushes((1, 1, (), (MIGHTY,)), ((0, 0),)), [])
        self.assertEqual(all_pushes((3, 3, (), (BLUNT,)), ((1, 1),)), [])

    def test_rises_with_all_beginnings(self):
        told = all_pushes((4, 3, (), (WEAK,)), ((1, 1),))
        self.assertEqual(told, [(0, EAST, 1), (0, EAST, 2), (0, NORTH, 1), (0, WEST, 1), (0, SOUTH, 1)])

    def test_with_those_that_go_along(self):
        hall = (9, 1, (), (MIGHTY, BLUNT, BLUNT))
        told = all_pushes(hall, ((1, 0), (3, 0), (6, 0)))
        self.assertEqual(told, [(0, EAST, many) for many in range(1, 6)] + [(0, WEST, 1)])

    def test_twelve_trolleys(self):
        hall = (4, 4, (), (MIGHTY,) * 12)
        stand = tuple((x, y) for x in range(4) for y in range(3))
        self.assertEqual(all_pushes(hall, stand), [(n, NORTH, 1) for n in range(12)])

    def test_by_the_words(self):
        for hall, stand in SOME_HALLS:
            expected = []
            for n in range(len(stand)):
                for direction in DIRECTIONS:
                    ends = plain_stands(hall, stand, n, direction)
                    expected += [(n, direction, many) for many in range(1, len(ends) + 1)]
            self.assertEqual(all_pushes(hall, stand), sorted(expected))

    def test_told_anew(self):
        hall, stand = (2, 1, (), (WEAK,)), ((0, 0),)
        told = all_pushes(hall, stand)
        told.append((7, 7, 7))
        again = all_pushes(hall, stand)
        self.assertEqual(again, [(0, EAST, 1)])
        self.assertIsNot(again, all_pushes(hall, stand))


class TestGoneAlong(Case):
    def test_rising(self):
        hall = (6, 1, (), (WEAK, BLUNT, MIGHTY))
        stand = ((2, 0), (1, 0), (0, 0))
        self.assertEqual(gone_along(hall, stand, (2, EAST, 1)), (0, 1, 2))

    def test_alone(self):
        self.assertEqual(gone_along((3, 1, (), (MIGHTY, WEAK)), ((1, 0), (0, 0)), (0, EAST, 1)), (0,))

    def test_by_the_words(self):
        for hall, stand in SOME_HALLS:
            for push in all_pushes(hall, stand):
                end = plain_stands(hall, stand, push[0], push[1])[push[2] - 1]
                expected = tuple(n for n in range(len(stand)) if end[n] != stand[n])
                self.assertEqual(gone_along(hall, stand, push), expected)


class TestBackOf(Case):
    def test_opposite(self):
        hall = (5, 5, (), (WEAK,))
        for direction in DIRECTIONS:
            told = back_of(hall, ((2, 2),), (0, direction, 2))
            self.assertEqual(told, (0, OPPOSITE[direction], 2))

    def test_others_went_along(self):
        hall, stand = (6, 1, (), (MIGHTY, WEAK)), ((0, 0), (2, 0))
        self.assertEqual(back_of(hall, stand, (0, EAST, 1)), (0, WEST, 1))
        self.assertIsNone(back_of(hall, stand, (0, EAST, 2)))

    def test_refused_ahead_of_none(self):
        self.barred_at(3, back_of, (5, 1, (), (MIGHTY, WEAK)), ((0, 0), (1, 0)), (0, EAST, 4))

    def test_leads_back(self):
        for hall, stand in SOME_HALLS:
            for push in all_pushes(hall, stand):
                told = back_of(hall, stand, push)
                if gone_along(hall, stand, push) == (push[0],):
                    self.assertEqual(told, (push[0], OPPOSITE[push[1]], push[2]))
                    self.assertEqual(pushed(hall, pushed(hall, stand, push), told), stand)
                else:
                    self.assertIsNone(told)


class TestSomeHalls(Case):
    def test_they_are_worth_asking(self):
        pushes = 0
        along = 0
        later = 0
        for hall, stand in SOME_HALLS:
            self.assertIs(is_hall(hall), True)
            self.assertIs(is_stand(hall, stand), True)
            for push in all_pushes(hall, stand):
                gone = gone_along(hall, stand, push)
                pushes += 1
                along += len(gone) > 2
                later += len(gone) > 1 and movers(hall, stand, push[0], push[1]) == (push[0],)
        self.assertGreater(pushes, 1000)
        self.assertGreater(along, 50)
        self.assertGreater(later, 50)

    def test_asked_again(self):
        for hall, stand in SOME_HALLS[:30]:
            first = [(push, pushed(hall, stand, push), back_of(hall, stand, push)) for push in all_pushes(hall, stand)]
            again = [(push, pushed(hall, stand, push), back_of(hall, stand, push)) for push in all_pushes(hall, stand)]
            self.assertEqual(first, again)


if __name__ == "__main__":
    unittest.main()
