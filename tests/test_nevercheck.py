import copy
import random
import unittest

from checking import CheckerCase
from plain import (
    BLUNT, MIGHTY, SMALL_HALLS, THINGS, WEAK, plain_shows_never, plain_stand_pairs, spoiled, walled,
)
from slidehall.judging import meeting
from slidehall.nevercheck import shows_never

WORDS = ("sides", "lines", "ring", "sign")
ROW = (1, 1, "row", 0)
LANE, LANE_STAND, LANE_SWAPPED = (4, 1, (), (WEAK, WEAK)), ((0, 0), (1, 0)), ((1, 0), (0, 0))
# The strong one pushes the dull one east; it never comes back.
BELT, BELT_STAND, BELT_END = (4, 1, (), (MIGHTY, BLUNT)), ((0, 0), (2, 0)), ((0, 0), (3, 0))


class Case(CheckerCase):
    def ask(self, *handed):
        return shows_never(*handed), plain_shows_never(*handed)


class TestKept(Case):
    def words(self, hall, one, other, words):
        for word in WORDS:
            if word in words:
                self.takes(hall, one, other, ("kept", word))
            else:
                self.takes_not(hall, one, other, ("kept", word))

    def test_sides(self):
        self.words((5, 1, ((2, 0),), (WEAK,)), ((0, 0),), ((3, 0),), ("sides",))

    def test_lines(self):
        self.words((4, 1, (), (ROW, ROW)), LANE_STAND, LANE_SWAPPED, ("lines",))

    def test_ring(self):
        hall = (3, 3, walled(["...", ".#.", "..."]), (WEAK,) * 3)
        self.words(hall, ((0, 0), (0, 1), (0, 2)), ((0, 1), (0, 0), (0, 2)), ("ring",))

    def test_sign(self):
        hall = (3, 2, (), (WEAK,) * 5)
        stand = ((0, 0), (0, 1), (1, 0), (1, 1), (2, 0))
        self.words(hall, stand, (stand[1], stand[0]) + stand[2:], ("sign",))

    def test_each_of_several(self):
        # Not only the first of them is taken.
        hall = (2, 2, (), (WEAK,) * 3)
        self.words(hall, ((0, 0), (0, 1), (1, 1)), ((0, 1), (0, 0), (1, 1)), ("ring", "sign"))
        hall = (2, 2, (), (ROW, ROW, WEAK))
        self.words(hall, ((0, 0), (1, 0), (1, 1)), ((1, 0), (0, 0), (1, 1)), ("lines", "ring", "sign"))
        self.words(hall, ((0, 0), (0, 1), (1, 1)), ((0, 1), (0, 0), (1, 1)), ("sides", "ring", "sign"))

    def test_nothing_unlike(self):
        self.words(LANE, LANE_STAND, LANE_SWAPPED, ())
        self.words(LANE, LANE_STAND, LANE_STAND, ())

    def test_other_words(self):
        hall, one, other = (5, 1, ((2, 0),), (WEAK,)), ((0, 0),), ((3, 0),)
        for thing in THINGS + ("side", "Sides", "kept", ("sides",), ["sides"], ("sides", "lines")):
            if thing != "sides":
                self.takes_not(hall, one, other, ("kept", thing))
        self.takes_not(hall, one, other, ("closed", "sides"))
        self.takes_not(hall, one, other, ("Kept", "sides"))
        self.takes_not(hall, one, other, ["kept", "sides"])
        self.takes_not(hall, one, other, ("kept", "sides", "sides"))
        self.takes_not(hall, one, other, ("kept",))


class TestClosed(Case):
    def lane_stands(self):
        return meeting(LANE, LANE_STAND, LANE_SWAPPED)[1]

    def test_in_any_order_and_twice(self):
        stands = self.lane_stands()
        self.takes(LANE, LANE_STAND, LANE_SWAPPED, ("closed", stands))
        self.takes(LANE, LANE_STAND, LANE_SWAPPED, ("closed", stands[::-1]))
        for seed in range(9):
            mixed = random.Random(seed).sample(stands * 3, len(stands) * 3)
            self.takes(LANE, LANE_STAND, LANE_SWAPPED, ("closed", mixed))

    def test_one_missing(self):
        stands = self.lane_stands()
        for stand in stands:
            left = [other for other in stands if other != stand]
            self.takes_not(LANE, LANE_STAND, LANE_SWAPPED, ("closed", left))
        self.takes_not(LANE, LANE_STAND, LANE_SWAPPED, ("closed", []))

    def test_one_itself_missing(self):
        # From these no push leads elsewhere, but the first stand isn't among them.
        ends = [((x, 0), (3, 0)) for x in range(3)]
        self.takes(BELT, BELT_END, BELT_STAND, ("closed", ends))
        self.takes_not(BELT, BELT_STAND, ((1, 0), (2, 0)), ("closed", ends))
        self.takes_not(BELT, BELT_STAND, ((1, 0), (0, 0)), ("closed", ends))

    def test_other_among_them(self):
        stands = self.lane_stands()
        for stand in stands:
            self.takes_not(LANE, LANE_STAND, stand, ("closed", stands))
        swapped = [(b, a) for a, b in stands]
        self.takes_not(LANE, LANE_STAND, LANE_SWAPPED, ("closed", stands + swapped))

    def test_more_than_are_come_to(self):
        hall, one, other = (5, 1, ((2, 0),), (WEAK, WEAK)), ((0, 0), (3, 0)), ((1, 0), (0, 0))
        stands = [((x, 0), (y, 0)) for x in (0, 1) for y in (3, 4)]
        far = [((x, 0), (y, 0)) for x in (3, 4) for y in (0, 1)]
        self.takes(hall, one, other, ("closed", stands))
        self.takes(hall, one, other, ("closed", far + stands))
        # From those that are not come to no push may lead out either.
        self.takes_not(hall, one, other, ("closed", far[:3] + stands))

    def test_a_push_leaves_the_list(self):
        before = [((0, 0), (2, 0)), ((1, 0), (2, 0))]
        ends = [((x, 0), (3, 0)) for x in range(3)]
        other = ((3, 0), (0, 0))
        self.takes(BELT, BELT_STAND, other, ("closed", before + ends))
        self.takes_not(BELT, BELT_STAND, other, ("closed", before))
        for k in range(3):
            self.takes_not(BELT, BELT_STAND, other, ("closed", before + ends[:k] + ends[k + 1:]))

    def test_no_stands_of_the_hall(self):
        stands = self.lane_stands()
        for thing in (((0, 0), (0, 0)), ((0, 0), (4, 0)), ((-1, 0), (2, 0)), ((0, 0),), ((0, 0), (1, 0), (2, 0)), ()):
            self.takes_not(LANE, LANE_STAND, LANE_SWAPPED, ("closed", stands + [thing]))

    def test_no_trolleys(self):
        self.takes_not((1, 1, (), ()), (), (), ("closed", [()]))
        self.takes_not((1, 1, (), ()), (), (), ("closed", []))

    def test_what_meeting_tells(self):
        words = {"row": 0, "kept": 0, "closed": 0}
        for hall, one, other in plain_stand_pairs(random.Random(47), SMALL_HALLS):
            told = meeting(hall, one, other)
            words[told[0]] += 1
            self.assertIs(shows_never(hall, one, other, told), told[0] != "row")
        self.assertTrue(all(many > 10 for many in words.values()), words)


class TestWrongInputs(Case):
    def test_things(self):
        for thing in THINGS + (("row", []), ("open", 3), ("closed",), ("kept",), ("closed", None), ("kept", None)):
            self.takes_not(LANE, LANE_STAND, LANE_SWAPPED, thing)
            self.takes_not((5, 1, ((2, 0),), (WEAK,)), ((0, 0),), ((3, 0),), thing)

    def test_each_part_spoiled(self):
        walls = (5, 1, ((2, 0),), (WEAK, ROW))
        belt = ("closed", [((x, 0), (3, 0)) for x in range(3)])
        for hall, one, other, told in (
            (LANE, LANE_STAND, LANE_SWAPPED, meeting(LANE, LANE_STAND, LANE_SWAPPED)),
            (walls, ((0, 0), (3, 0)), ((1, 0), (0, 0)), ("kept", "sides")), (BELT, BELT_END, BELT_STAND, belt),
        ):
            self.takes(hall, one, other, told)
            answers = []
            for thing in spoiled(told):
                answers.append(shows_never(hall, one, other, thing))
                self.assertIs(answers[-1], plain_shows_never(hall, one, other, thing), thing)
            self.assertGreater(answers.count(False), 100)

    def test_true_and_false_are_no_numbers(self):
        stands = meeting(LANE, LANE_STAND, LANE_SWAPPED)[1]
        self.takes(LANE, LANE_STAND, LANE_SWAPPED, ("closed", stands))
        for wrong in (((False, 0), (1, 0)), ((0, 0), (True, 0)), ((0, 0), (1, False))):
            self.assertEqual(wrong, stands[0])
            self.takes_not(LANE, LANE_STAND, LANE_SWAPPED, ("closed", [wrong] + stands[1:]))
            self.takes_not(LANE, LANE_STAND, LANE_SWAPPED, ("closed", stands + [wrong]))


class TestTold(Case):
    def test_nothing_handed_in_is_changed(self):
        told = meeting(LANE, LANE_STAND, LANE_SWAPPED)
        before = copy.deepcopy((LANE, LANE_STAND, LANE_SWAPPED, told))
        for k in range(2):
            self.takes(LANE, LANE_STAND, LANE_SWAPPED, told)
            self.assertEqual((LANE, LANE_STAND, LANE_SWAPPED, told), before)


if __name__ == "__main__":
    unittest.main()
