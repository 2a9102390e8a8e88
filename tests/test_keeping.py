import copy
import itertools
import random
import unittest

from plain import (
    BLUNT, MIGHTY, SMALL_HALLS, SOME_HALLS, WEAK, filled, plain_come_to, plain_ends, plain_kept, plain_lines,
    plain_ring_order, plain_sides, plain_sign, walled,
)
from slidehall.keeping import kept, lines, ring_order, sides, sign, unlike

SQUARE = ["...", ".#.", "..."]
WINDING = [
    ".......",
    ".#####.",
    ".#.....",
    ".#.####",
    ".#.....",
    ".#####.",
    ".......",
]
# Its least cell is (0, 1), with the neighbours (0, 2) and (1, 1).
CORNERED = ["#....#", "..##..", ".####.", "..##..", "#....#"]
TWO_RINGS = ["...#...", ".#.#.#.", "...#..."]
NO_RINGS = (
    ["."], ["#"], ["###", "###"], [".."], ["..", ".#"], ["...", "..."], ["...", "...", "..."], TWO_RINGS,
    ["....", ".#.#", "...#"], ["..#", ".#.", "..."], ["..##", "..##", "##..", "##.."], ["..", "..", "##", ".."],
)


def ring_hall(rows, kinds):
    return (len(rows[0]), len(rows), walled(rows), tuple(kinds))


class TestSides(unittest.TestCase):
    def test_ways(self):
        hall = (5, 4, (), ((1, 1, "any", 0), (1, 2, "row", 1), (2, 1, "column", 0), (1, 1, "none", 1)))
        self.assertEqual(sides(hall, ((4, 3), (2, 1), (3, 3), (4, 0))), ((0, 0), (0, 1), (3, 0), (4, 0)))

    def test_dull(self):
        hall = (4, 4, (), ((1, 1, "any", -1), (1, 1, "row", -1), (1, 1, "column", -1), (1, 1, "none", -1)))
        self.assertEqual(sides(hall, ((2, 2), (3, 1), (1, 3), (3, 3))), ((0, 0), (0, 1), (1, 0), (3, 3)))

    def test_no_trolleys(self):
        self.assertEqual(sides((3, 3, (), ()), ()), ())

    def test_others_are_not_in_the_way(self):
        hall = (4, 1, (), (WEAK, (1, 1, "none", 0), WEAK))
        self.assertEqual(sides(hall, ((0, 0), (1, 0), (3, 0))), ((0, 0), (1, 0), (0, 0)))

    def test_parted_by_walls(self):
        hall = (7, 3, walled(["...#...", "...#...", "...#..."]), (WEAK, WEAK, (1, 1, "row", 0), (1, 1, "row", -1)))
        self.assertEqual(sides(hall, ((2, 2), (5, 2), (1, 1), (6, 1))), ((0, 0), (4, 0), (0, 1), (4, 1)))

    def test_round_a_wall(self):
        # It goes east first, to come to a lesser place round the wall.
        hall = (4, 3, walled(["#...", "###.", "...."]), (WEAK,))
        self.assertEqual(sides(hall, ((1, 2),)), ((0, 0),))
        hall = (4, 3, walled(["#...", "###.", "...."]), ((1, 1, "row", 0),))
        self.assertEqual(sides(hall, ((3, 2),)), ((1, 2),))

    def test_too_wide_for_a_gap(self):
        rows = ["...#...", ".......", "...#..."]
        for high, least in ((1, (0, 0)), (2, (4, 0))):
            hall = (7, 3, walled(rows), ((1, high, "any", 1),))
            self.assertEqual(sides(hall, ((5, 1),)), (least,))

    def test_the_least_place_by_x_first(self):
        hall = (3, 3, walled(["...", "#..", "#.."]), (WEAK,))
        self.assertEqual(sides(hall, ((2, 0),)), ((0, 2),))

    def test_by_the_words(self):
        for hall, stand in SOME_HALLS[:150]:
            told = sides(hall, stand)
            self.assertIsInstance(told, tuple)
            self.assertEqual(told, plain_sides(hall, stand))


class TestLines(unittest.TestCase):
    ROW, COLUMN = (1, 1, "row", 0), (1, 1, "column", 0)

    def test_rows(self):
        hall = (5, 2, (), (self.ROW,) * 4)
        self.assertEqual(lines(hall, ((3, 0), (1, 0), (0, 1), (4, 0))), [(0, 3), (1, 0), (1, 3)])

    def test_columns(self):
        hall = (2, 5, (), (self.COLUMN,) * 4)
        self.assertEqual(lines(hall, ((0, 3), (0, 1), (1, 0), (0, 4))), [(0, 3), (1, 0), (1, 3)])

    def test_none(self):
        self.assertEqual(lines((3, 3, (), ()), ()), [])
        self.assertEqual(lines((3, 3, (), (self.ROW,)), ((1, 1),)), [])
        self.assertEqual(lines((3, 3, (), (self.ROW, self.ROW)), ((1, 1), (1, 2))), [])
        self.assertEqual(lines((3, 3, (), (self.COLUMN, self.COLUMN)), ((1, 1), (2, 1))), [])

    def test_several_rows_that_share_one(self):
        hall = (6, 5, (), ((1, 3, "row", 0), (2, 3, "row", -1), (1, 2, "row", 1)))
        self.assertEqual(lines(hall, ((4, 0), (0, 2), (5, 3))), [(1, 0), (1, 2)])
        hall = (5, 6, (), ((3, 1, "column", 0), (3, 2, "column", -1), (2, 1, "column", 1)))
        self.assertEqual(lines(hall, ((0, 4), (2, 0), (3, 5))), [(1, 0), (1, 2)])

    def test_neighbouring_rows_share_none(self):
        hall = (6, 5, (), ((1, 2, "row", 0), (1, 2, "row", 0)))
        self.assertEqual(lines(hall, ((0, 0), (3, 2))), [])
        self.assertEqual(lines(hall, ((0, 2), (3, 0))), [])
        self.assertEqual(lines(hall, ((0, 1), (3, 0))), [(0, 1)])

    def test_only_of_the_same_ways(self):
        kinds = (self.ROW, self.COLUMN, WEAK, WEAK, (1, 1, "none", 0), (1, 1, "none", 0))
        self.assertEqual(lines((6, 1, (), kinds), tuple((x, 0) for x in range(6))), [])
        self.assertEqual(lines((1, 6, (), kinds), tuple((0, y) for y in range(6))), [])

    def test_across_walls(self):
        self.assertEqual(lines((3, 1, ((1, 0),), (self.ROW, self.ROW)), ((2, 0), (0, 0))), [(1, 0)])

    def test_twelve(self):
        hall = (9, 2, (), (self.ROW,) * 9 + ((1, 1, "row", -1),) * 3)
        stand = tuple((x, 0) for x in range(9)) + ((2, 1), (1, 1), (0, 1))
        expected = list(itertools.combinations(range(9), 2)) + [(10, 9), (11, 9), (11, 10)]
        self.assertEqual(lines(hall, stand), expected)

    def test_by_the_words(self):
        found = 0
        for hall, stand in SOME_HALLS + SMALL_HALLS:
            told = lines(hall, stand)
            found += len(told)
            self.assertEqual(told, plain_lines(hall, stand))
        self.assertGreater(found, 20)


class TestRingOrder(unittest.TestCase):
    def test_four_cells(self):
        # Round from (0, 0) by (0, 1), (1, 1) and (1, 0).
        hall = (2, 2, (), (WEAK,) * 3)
        self.assertEqual(ring_order(hall, ((0, 0), (0, 1), (1, 1))), (0, 1, 2))
        self.assertEqual(ring_order(hall, ((1, 0), (0, 1), (0, 0))), (0, 2, 1))
        self.assertEqual(ring_order(hall, ((0, 1), (0, 0), (1, 0))), (0, 2, 1))
        self.assertEqual(ring_order((2, 2, (), (WEAK,) * 4), ((1, 1), (0, 0), (1, 0), (0, 1))), (0, 2, 1, 3))

    def test_square(self):
        hall = ring_hall(SQUARE, (WEAK, MIGHTY, BLUNT, (1, 1, "none", 0)))
        self.assertEqual(ring_order(hall, ((2, 1), (0, 1), (1, 2), (1, 0))), (0, 3, 1, 2))

    def test_winding(self):
        # In along one lane and out by the next: near one another, but far round the ring.
        hall = ring_hall(WINDING, (WEAK,) * 5)
        stand = ((3, 2), (3, 4), (0, 3), (3, 6), (3, 0))
        self.assertEqual(ring_order(hall, stand), (0, 4, 2, 3, 1))

    def test_cornered(self):
        hall = ring_hall(CORNERED, (WEAK,) * 4)
        self.assertEqual(ring_order(hall, ((5, 2), (1, 0), (0, 2), (3, 4))), (0, 1, 2, 3))

    def test_no_trolleys(self):
        for rows in (["..", ".."], SQUARE, WINDING, CORNERED):
            self.assertEqual(ring_order(ring_hall(rows, ()), ()), ())

    def test_one_trolley(self):
        self.assertEqual(ring_order(ring_hall(WINDING, (BLUNT,)), ((6, 5),)), (0,))

    def test_no_rings(self):
        for rows in NO_RINGS:
            hall = ring_hall(rows, ())
            self.assertIsNone(ring_order(hall, ()), rows)
            self.assertIsNone(plain_ring_order(hall, ()), rows)
        self.assertIsNone(ring_order(ring_hall(TWO_RINGS, (WEAK, WEAK)), ((0, 0), (4, 0))))

    def test_three_cells(self):
        self.assertIsNone(ring_order((2, 2, ((1, 1),), (WEAK,)), ((0, 0),)))

    def test_kinds_that_are_not_single(self):
        for kind in ((2, 1, "any", 0), (1, 2, "any", 1), (2, 1, "none", -1)):
            hall = ring_hall(SQUARE, (WEAK, kind))
            self.assertIsNone(ring_order(hall, ((2, 2), (0, 0))))

    def test_by_the_words(self):
        chance = random.Random(17)
        for rows in (["..", ".."], SQUARE, WINDING, CORNERED, TWO_RINGS, ["....", ".##.", "...."]):
            for k in range(40):
                floor = sum(row.count(".") for row in rows)
                free = max(floor - chance.randint(1, 12), 0)
                hall, stand = filled(chance, len(rows[0]), len(rows), walled(rows), free)
                told = ring_order(hall, stand)
                self.assertEqual(told, plain_ring_order(hall, stand))
                self.assertEqual(told is None, rows == TWO_RINGS)


class TestSign(unittest.TestCase):
    def test_ordinary(self):
        hall = (2, 2, (), (WEAK,) * 3)
        self.assertEqual(sign(hall, ((0, 0), (0, 1), (1, 0))), 0)
        self.assertEqual(sign(hall, ((0, 1), (0, 0), (1, 0))), 1)
        self.assertEqual(sign(hall, ((0, 0), (0, 1), (1, 1))), 0)
        self.assertEqual(sign(hall, ((0, 0), (1, 0), (1, 1))), 1)

    def test_free_cell_counts_as_the_greatest(self):
        # It stands ahead of three, and its x and y are 0.
        self.assertEqual(sign((2, 2, (), (WEAK,) * 3), ((0, 1), (1, 0), (1, 1))), 1)
        self.assertEqual(sign((2, 1, (), (WEAK,)), ((0, 0),)), 1)
        self.assertEqual(sign((2, 1, (), (WEAK,)), ((1, 0),)), 1)

    def test_x_and_y_of_the_free_cell(self):
        self.assertEqual(sign((3, 3, tuple((x, y) for x in range(3) for y in range(3) if (x, y) != (2, 1)), ()), ()), 1)
        self.assertEqual(sign((3, 3, tuple((x, y) for x in range(3) for y in range(3) if (x, y) != (1, 1)), ()), ()), 0)

    def test_no_free_cell(self):
        self.assertIsNone(sign((2, 1, (), (WEAK, WEAK)), ((0, 0), (1, 0))))
        self.assertIsNone(sign((1, 1, ((0, 0),), ()), ()))

    def test_two_free_cells(self):
        self.assertIsNone(sign((2, 2, (), (WEAK, WEAK)), ((0, 0), (1, 0))))
        self.assertIsNone(sign((2, 1, (), ()), ()))

    def test_kinds_that_are_not_single(self):
        self.assertIsNone(sign((3, 1, (), ((2, 1, "any", 0),)), ((0, 0),)))
        self.assertIsNone(sign((1, 3, (), ((1, 2, "none", -1),)), ((0, 0),)))

    def test_by_the_words(self):
        chance = random.Random(29)
        told = []
        for k in range(300):
            wide, high = chance.randint(1, 4), chance.randint(1, 4)
            cells = [(x, y) for x in range(wide) for y in range(high)]
            walls = sorted(chance.sample(cells, chance.randint(max(len(cells) - 12, 0), len(cells) - 1)))
            hall, stand = filled(chance, wide, high, walls, chance.choice((0, 1, 1, 1, 2)))
            told.append(sign(hall, stand))
            self.assertEqual(told[-1], plain_sign(hall, stand))
        self.assertTrue(all(told.count(value) > 50 for value in (None, 0, 1)))


class TestKept(unittest.TestCase):
    def test_the_four(self):
        hall = (2, 2, (), ((1, 1, "row", 0), (1, 1, "row", 0), (1, 1, "column", 0)))
        stand = ((1, 0), (0, 0), (1, 1))
        self.assertEqual(kept(hall, stand), (((0, 0), (0, 0), (1, 0)), ((1, 0),), (0, 1, 2), 0))
        self.assertEqual(kept((3, 1, (), ()), ()), ((), (), None, None))

    def test_by_the_words(self):
        for hall, stand in SMALL_HALLS:
            self.assertEqual(kept(hall, stand), plain_kept(hall, stand))

    def held(self, hall, stand):
        # Before and behind every push, of all stands that are come to.
        first = kept(hall, stand)
        for one in plain_come_to(hall, stand):
            self.assertEqual(kept(hall, one), first)
            for push, end in plain_ends(hall, one)[:4]:
                self.assertEqual(kept(hall, end), first, (hall, one, push))

    def test_no_push_changes_it(self):
        for hall, stand in SMALL_HALLS[::3]:
            self.held(hall, stand)

    def test_no_push_changes_it_on_rings(self):
        chance = random.Random(31)
        for rows in (["..", ".."], SQUARE, ["....", ".##.", "...."]):
            floor = sum(row.count(".") for row in rows)
            for many in (1, 2, 3, floor - 1):
                hall, stand = filled(chance, len(rows[0]), len(rows), walled(rows), floor - many)
                self.held(hall, stand)

    def test_no_push_changes_it_with_one_free_cell(self):
        chance = random.Random(37)
        pushes = 0
        for k in range(60):
            wide, high = chance.randint(2, 4), chance.randint(2, 3)
            hall, stand = filled(chance, wide, high, (), 1)
            first = kept(hall, stand)
            self.assertIn(first[3], (0, 1))
            for many in range(12):
                ends = plain_ends(hall, stand)
                if ends:
                    stand = chance.choice(ends)[1]
                    pushes += 1
                    self.assertEqual(kept(hall, stand), first)
        self.assertGreater(pushes, 200)


class TestUnlike(unittest.TestCase):
    ROW = (1, 1, "row", 0)

    def test_nothing(self):
        for hall, stand in SMALL_HALLS[::4]:
            self.assertIsNone(unlike(hall, stand, stand))
            for end in plain_come_to(hall, stand)[:5]:
                self.assertIsNone(unlike(hall, stand, end))
        self.assertIsNone(unlike((1, 1, (), ()), (), ()))

    def test_sides(self):
        hall = (5, 1, ((2, 0),), (WEAK,))
        self.assertEqual(unlike(hall, ((0, 0),), ((3, 0),)), "sides")
        self.assertIsNone(unlike(hall, ((0, 0),), ((1, 0),)))

    def test_lines(self):
        hall = (5, 1, (), (self.ROW, self.ROW))
        self.assertEqual(unlike(hall, ((0, 0), (1, 0)), ((3, 0), (2, 0))), "lines")
        self.assertIsNone(unlike(hall, ((0, 0), (1, 0)), ((3, 0), (4, 0))))

    def test_ring(self):
        hall = ring_hall(SQUARE, (WEAK, WEAK, WEAK))
        one, turned, other = ((0, 0), (0, 1), (0, 2)), ((2, 2), (2, 1), (2, 0)), ((2, 2), (2, 0), (2, 1))
        self.assertIsNone(unlike(hall, one, turned))
        self.assertEqual(unlike(hall, one, other), "ring")

    def test_sign(self):
        hall = (3, 3, (), (WEAK,) * 8)
        stand = tuple((x, y) for x in range(3) for y in range(3))[:8]
        other = (stand[1], stand[0]) + stand[2:]
        self.assertEqual(unlike(hall, stand, other), "sign")
        self.assertIsNone(unlike(hall, stand, (stand[1], stand[2], stand[0]) + stand[3:]))

    def test_the_first_of_several(self):
        # Ring and sign.
        hall = (2, 2, (), (WEAK,) * 3)
        self.assertEqual(unlike(hall, ((0, 0), (0, 1), (1, 1)), ((0, 1), (0, 0), (1, 1))), "ring")
        # Lines, ring and sign.
        hall = (2, 2, (), (self.ROW, self.ROW, WEAK))
        self.assertEqual(unlike(hall, ((0, 0), (1, 0), (1, 1)), ((1, 0), (0, 0), (1, 1))), "lines")
        # Sides, ring and sign.
        self.assertEqual(unlike(hall, ((0, 0), (0, 1), (1, 1)), ((0, 1), (0, 0), (1, 1))), "sides")
        # Sides and lines.
        hall = (5, 1, ((2, 0),), (self.ROW, self.ROW))
        self.assertEqual(unlike(hall, ((0, 0), (3, 0)), ((3, 0), (0, 0))), "sides")

    def test_by_the_words(self):
        chance = random.Random(41)
        told = []
        for k in range(300):
            wide, high = chance.choice(((2, 2), (3, 3), (3, 2), (4, 1), (2, 4)))
            walls = ((1, 1),) if (wide, high) == (3, 3) and chance.random() < 0.5 else ()
            hall, one = filled(chance, wide, high, walls, chance.choice((1, 1, 2)))
            other = list(one)
            a, b = chance.randrange(len(one)), chance.randrange(len(one))
            other[a], other[b] = other[b], other[a]
            first, second = plain_kept(hall, one), plain_kept(hall, tuple(other))
            words = [word for k, word in enumerate(("sides", "lines", "ring", "sign")) if first[k] != second[k]]
            told.append(unlike(hall, one, tuple(other)))
            self.assertEqual(told[-1], words[0] if words else None)
        self.assertTrue(all(told.count(word) > 3 for word in ("sides", "lines", "ring", "sign", None)), told)


class TestTold(unittest.TestCase):
    HALL, STAND = (2, 2, (), ((1, 1, "row", 0),) * 2 + (WEAK,)), ((0, 0), (1, 0), (0, 1))

    def test_nothing_handed_in_is_changed(self):
        before = copy.deepcopy((self.HALL, self.STAND))
        for asked in (sides, lines, ring_order, sign, kept):
            asked(self.HALL, self.STAND)
        unlike(self.HALL, self.STAND, self.STAND)
        self.assertEqual((self.HALL, self.STAND), before)

    def test_told_anew(self):
        told = lines(self.HALL, self.STAND)
        self.assertEqual(told, [(0, 1)])
        told.append((7, 7))
        self.assertEqual(lines(self.HALL, self.STAND), [(0, 1)])
        self.assertEqual(kept(self.HALL, self.STAND)[1], ((0, 1),))
        for asked in (sides, ring_order, sign, kept):
            self.assertEqual(asked(self.HALL, self.STAND), asked(self.HALL, self.STAND))

    def test_all_are_tuples(self):
        told = kept(self.HALL, self.STAND)
        self.assertTrue(all(isinstance(part, tuple) for part in (told,) + told[:3]))


if __name__ == "__main__":
    unittest.main()
