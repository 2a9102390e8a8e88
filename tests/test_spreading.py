import copy
import unittest

from plain import (
    BLUNT, EAST, MIGHTY, NORTH, ROOMS, ROOMS_STAND, SMALL_HALLS, SOME_HALLS, WEAK, plain_come_to, plain_ends,
    plain_layers, plain_reach, shelf_hall,
)
from slidehall.errors import HallError, TooMany
from slidehall.pushing import pushed
from slidehall.spreading import come_to, layers

# By 3 pushes just 2,000 stands are come to, by 4 more.
JUST_ENOUGH, JUST_ENOUGH_STAND = shelf_hall((4, 4, 5, 5, 6, 9))
# By 3 pushes 2,001 stands are come to, by 2 only 337.
ONE_TOO_MANY, ONE_TOO_MANY_STAND = shelf_hall((5, 5, 7, 7, 9))
TWO_THOUSAND, TWO_THOUSAND_STAND = shelf_hall((5, 5, 5, 8, 2))
VAST, VAST_STAND = (9, 9, (), (MIGHTY,) * 12), tuple((x, y) for x in range(3) for y in range(4))


class TestLayers(unittest.TestCase):
    def test_most_nought(self):
        self.assertEqual(layers((3, 3, (), (WEAK,)), ((1, 1),), 0), [[((1, 1),)]])
        self.assertEqual(layers(VAST, VAST_STAND, 0), [[VAST_STAND]])

    def test_no_trolleys(self):
        for most in (0, 1, 300):
            self.assertEqual(layers((3, 3, (), ()), (), most), [[()]])

    def test_ordinary(self):
        told = layers((2, 2, (), (WEAK, WEAK)), ((0, 0), (0, 1)), 2)
        self.assertEqual(told, [
            [((0, 0), (0, 1))],
            [((0, 0), (1, 1)), ((1, 0), (0, 1))],
            [((0, 0), (1, 0)), ((0, 1), (1, 1)), ((1, 0), (0, 0)), ((1, 0), (1, 1)), ((1, 1), (0, 1))],
        ])

    def test_one_push_of_many_steps(self):
        told = layers((9, 1, (), (WEAK,)), ((4, 0),), 5)
        self.assertEqual(told, [[((4, 0),)], [((x, 0),) for x in range(9) if x != 4]])

    def test_not_by_fewer(self):
        told = layers((3, 3, (), (WEAK,)), ((0, 0),), 9)
        self.assertEqual(told, [
            [((0, 0),)], [((0, 1),), ((0, 2),), ((1, 0),), ((2, 0),)], [((1, 1),), ((1, 2),), ((2, 1),), ((2, 2),)],
        ])

    def test_most_beyond_all(self):
        hall, stand = (3, 3, (), (WEAK,)), ((0, 0),)
        for most in (2, 3, 300, 5000, 10 ** 30):
            self.assertEqual(len(layers(hall, stand, most)), 3)

    def test_nobody_can_go(self):
        hall = (4, 1, (), (BLUNT, (1, 1, "none", 1), (1, 1, "column", 0)))
        self.assertEqual(layers(hall, ((0, 0), (1, 0), (3, 0)), 7), [[((0, 0), (1, 0), (3, 0))]])

    def test_by_the_words(self):
        for hall, stand in SMALL_HALLS:
            expected = plain_layers(hall, stand)
            for most in range(len(expected) + 2):
                self.assertEqual(layers(hall, stand, most), expected[:most + 1])

    def test_refused_by_what_is_come_to_within_most(self):
        told = layers(JUST_ENOUGH, JUST_ENOUGH_STAND, 3)
        self.assertEqual([len(layer) for layer in told], [1, 27, 295, 1677])
        told = layers(ONE_TOO_MANY, ONE_TOO_MANY_STAND, 2)
        self.assertEqual([len(layer) for layer in told], [1, 28, 308])
        for hall, stand, most in (
            (JUST_ENOUGH, JUST_ENOUGH_STAND, 4), (ONE_TOO_MANY, ONE_TOO_MANY_STAND, 3),
            (ONE_TOO_MANY, ONE_TOO_MANY_STAND, 10 ** 30), (VAST, VAST_STAND, 3),
        ):
            with self.assertRaises(TooMany):
                layers(hall, stand, most)

    def test_vast_hall_within_one_push(self):
        for hall, stand in SOME_HALLS[:40]:
            told = layers(hall, stand, 1)
            self.assertEqual(told[0], [stand])
            self.assertEqual(sum(told[1:], []), sorted({end for push, end in plain_ends(hall, stand)}))


class TestComeTo(unittest.TestCase):
    def test_no_trolleys(self):
        self.assertEqual(come_to((3, 3, (), ()), ()), [()])

    def test_nobody_can_go(self):
        self.assertEqual(come_to((3, 1, (), (BLUNT,)), ((1, 0),)), [((1, 0),)])
        self.assertEqual(come_to((1, 1, (), (MIGHTY,)), ((0, 0),)), [((0, 0),)])

    def test_rises(self):
        told = come_to((3, 2, (), (WEAK,)), ((1, 1),))
        self.assertEqual(told, [((x, y),) for x in range(3) for y in range(2)])

    def test_strong_and_dull(self):
        # The dull one is pushed east and never comes back.
        hall = (5, 1, (), (MIGHTY, BLUNT))
        told = come_to(hall, ((0, 0), (2, 0)))
        self.assertEqual(told, [((x, 0), (d, 0)) for x in range(4) for d in range(2, 5) if x < d])
        self.assertEqual(come_to(hall, ((0, 0), (4, 0))), [((x, 0), (4, 0)) for x in range(4)])
        self.assertEqual(come_to(hall, ((4, 0), (0, 0))), [((x, 0), (0, 0)) for x in range(1, 5)])

    def test_one_doesnt_come_back(self):
        hall, stand = (4, 2, (), (MIGHTY, BLUNT)), ((1, 0), (2, 0))
        end = pushed(hall, stand, (0, EAST, 1))
        self.assertIn(end, come_to(hall, stand))
        self.assertNotIn(stand, come_to(hall, end))
        end = pushed(hall, stand, (0, NORTH, 1))
        self.assertIn(stand, come_to(hall, end))

    def test_parted_by_walls(self):
        hall = (5, 1, ((2, 0),), (WEAK,))
        self.assertEqual(come_to(hall, ((0, 0),)), [((0, 0),), ((1, 0),)])
        self.assertEqual(come_to(hall, ((4, 0),)), [((3, 0),), ((4, 0),)])

    def test_by_the_words(self):
        for hall, stand in SMALL_HALLS:
            self.assertEqual(come_to(hall, stand), plain_come_to(hall, stand))

    def test_one_way_halls_are_among_these(self):
        self.assertGreater(sum(
            any(stand not in plain_reach(hall, end, 999) for end in plain_come_to(hall, stand))
            for hall, stand in SMALL_HALLS
        ), 9)

    def test_two_thousand(self):
        told = come_to(TWO_THOUSAND, TWO_THOUSAND_STAND)
        self.assertEqual(len(told), 2000)
        self.assertEqual(told, sorted(set(told)))

    def test_more_are_refused(self):
        for hall, stand in ((ROOMS, ROOMS_STAND), (ONE_TOO_MANY, ONE_TOO_MANY_STAND), (VAST, VAST_STAND)):
            with self.assertRaises(TooMany) as caught:
                come_to(hall, stand)
            self.assertIsInstance(caught.exception, HallError)

    def test_one_room_less(self):
        for left_out, many in ((0, 69), (1, 667), (2, 87)):
            hall = ROOMS[:3] + (ROOMS[3][:2],)
            stand = ROOMS_STAND[:left_out] + ROOMS_STAND[left_out + 1:]
            self.assertEqual(len(come_to(hall, stand)), many)


class TestTold(unittest.TestCase):
    HALL, STAND = (3, 2, (), (MIGHTY, WEAK)), ((0, 0), (1, 0))

    def test_nothing_handed_in_is_changed(self):
        before = copy.deepcopy((self.HALL, self.STAND))
        layers(self.HALL, self.STAND, 3)
        come_to(self.HALL, self.STAND)
        self.assertEqual((self.HALL, self.STAND), before)

    def test_told_anew(self):
        told = layers(self.HALL, self.STAND, 3)
        before = copy.deepcopy(told)
        for layer in told:
            layer.clear()
        told.clear()
        self.assertEqual(layers(self.HALL, self.STAND, 3), before)
        told = come_to(self.HALL, self.STAND)
        before = list(told)
        told.clear()
        self.assertEqual(come_to(self.HALL, self.STAND), before)

    def test_no_two_lists_are_one(self):
        told = layers(self.HALL, self.STAND, 3)
        self.assertEqual(len({id(layer) for layer in told}), len(told))

    def test_asked_again_after_a_refusal(self):
        for most in (4, 3, 4, 3):
            if most == 3:
                self.assertEqual(len(layers(JUST_ENOUGH, JUST_ENOUGH_STAND, 3)), 4)
            else:
                self.assertRaises(TooMany, layers, JUST_ENOUGH, JUST_ENOUGH_STAND, 4)


if __name__ == "__main__":
    unittest.main()
