import copy
import random
import unittest

from plain import SMALL_HALLS, SOME_HALLS, WEAK
from plaintexts import LETTERS, PlainBadRow, plain_hall_of, plain_hall_text
from slidehall.errors import BadRow, HallError
from slidehall.halls import is_hall, is_stand
from slidehall.texts import hall_of, hall_text


def rows(*given):
    return "\n".join(given)


KITCHEN = rows("hall", "aa.#", "aab.", "c...", "a any strong", "b row", "c none dull")


class Case(unittest.TestCase):
    def refuses(self, text, row):
        with self.assertRaises(BadRow) as caught:
            hall_of(text)
        self.assertEqual(caught.exception.row, row, text)
        self.assertIs(caught.exception.row.__class__, int)
        with self.assertRaises(PlainBadRow) as caught:
            plain_hall_of(text)
        self.assertEqual(caught.exception.args, (row,), text)


class TestHallText(unittest.TestCase):
    def test_ordinary(self):
        hall = (4, 3, ((3, 2),), ((2, 2, "any", 1), (1, 1, "row", 0), (1, 1, "none", -1)))
        self.assertEqual(hall_text(hall, ((0, 1), (2, 1), (0, 0))), KITCHEN)

    def test_one_cell(self):
        self.assertEqual(hall_text((1, 1, (), ()), ()), "hall\n.")
        self.assertEqual(hall_text((1, 1, ((0, 0),), ()), ()), "hall\n#")
        self.assertEqual(hall_text((1, 1, (), (WEAK,)), ((0, 0),)), "hall\na\na any")

    def test_no_trolleys(self):
        self.assertEqual(hall_text((3, 2, ((0, 0), (2, 1)), ()), ()), rows("hall", "..#", "#.."))

    def test_greatest_y_first(self):
        self.assertEqual(hall_text((1, 3, ((0, 0),), (WEAK,)), ((0, 2),)), rows("hall", "a", ".", "#", "a any"))
        self.assertEqual(hall_text((3, 1, ((0, 0),), (WEAK,)), ((2, 0),)), rows("hall", "#.a", "a any"))

    def test_twelve(self):
        hall, stand = (9, 2, (), (WEAK,) * 12), tuple((n % 9, n // 9) for n in range(12))
        given = ["hall", "jkl......", "abcdefghi"] + [f"{letter} any" for letter in LETTERS]
        self.assertEqual(hall_text(hall, stand), rows(*given))

    def test_each_of_the_ways_and_strengths(self):
        for ways in ("any", "row", "column", "none"):
            for strong, word in ((1, " strong"), (0, ""), (-1, " dull")):
                hall = (2, 1, (), ((2, 1, ways, strong),))
                self.assertEqual(hall_text(hall, ((0, 0),)), f"hall\naa\na {ways}{word}")

    def test_by_the_words(self):
        for hall, stand in SOME_HALLS + SMALL_HALLS:
            self.assertEqual(hall_text(hall, stand), plain_hall_text(hall, stand))


class TestHallOf(unittest.TestCase):
    def test_ordinary(self):
        hall = (4, 3, ((3, 2),), ((2, 2, "any", 1), (1, 1, "row", 0), (1, 1, "none", -1)))
        self.assertEqual(hall_of(KITCHEN), (hall, ((0, 1), (2, 1), (0, 0))))

    def test_one_cell(self):
        self.assertEqual(hall_of("hall\n."), ((1, 1, (), ()), ()))
        self.assertEqual(hall_of("hall\n#"), ((1, 1, ((0, 0),), ()), ()))
        self.assertEqual(hall_of("hall\na\na none dull"), ((1, 1, (), ((1, 1, "none", -1),)), ((0, 0),)))

    def test_each_told_text(self):
        for hall, stand in SOME_HALLS + SMALL_HALLS:
            told = hall_of(hall_text(hall, stand))
            self.assertEqual(told, (hall, stand))
            self.assertIsInstance(told, tuple)
            self.assertTrue(is_hall(told[0]) and is_stand(*told))
            self.assertEqual(hall_text(*told), hall_text(hall, stand))

    def test_nine_by_nine(self):
        given = ["hall"] + ["." * 8 + "#"] * 8 + ["aaaaaaaaa", "a row strong"]
        hall = (9, 9, tuple((8, y) for y in range(1, 9)), ((9, 1, "row", 1),))
        self.assertEqual(hall_of(rows(*given)), (hall, ((0, 0),)))

    def test_walls_rise(self):
        self.assertEqual(hall_of(rows("hall", "##", "##"))[0][2], ((0, 0), (0, 1), (1, 0), (1, 1)))


class TestFirstRows(Case):
    def test_first_row(self):
        for first in ("", "Hall", "hall ", " hall", "halls", "hal", "...", "a any"):
            self.refuses(rows(first, "..", ".."), 0)
            self.refuses(first, 0)
        self.refuses(rows("..", "hall"), 0)
        self.refuses(rows("", "hall", ".."), 0)

    def test_no_picture_row(self):
        self.refuses("hall", 1)
        self.refuses(rows("hall", "a any"), 1)
        self.refuses(rows("hall", " "), 1)
        self.refuses(rows("hall", ". .", "..."), 1)
        self.refuses(rows("hall", " ..", "..."), 1)


class TestPictureRows(Case):
    def test_tenth(self):
        self.assertEqual(hall_of(rows("hall", *["."] * 9))[0], (1, 9, (), ()))
        self.refuses(rows("hall", *["."] * 10), 10)
        self.refuses(rows("hall", *["."] * 12), 10)
        self.refuses(rows("hall", *["."] * 9, ""), 10)
        self.refuses(rows("hall", *["a"] * 10, "a any"), 10)

    def test_no_sign(self):
        self.refuses(rows("hall", ""), 1)
        self.refuses(rows("hall", "", "..", ".."), 1)
        self.refuses(rows("hall", "..", ""), 2)
        self.refuses(rows("hall", "..", "", "a any"), 2)
        self.refuses(rows("hall", "", ""), 1)

    def test_more_than_nine_signs(self):
        self.assertEqual(hall_of(rows("hall", "." * 9))[0], (9, 1, (), ()))
        self.refuses(rows("hall", "." * 10), 1)
        self.refuses(rows("hall", "." * 9, "." * 10), 2)
        self.refuses(rows("hall", "." * 10, "." * 10), 1)

    def test_other_signs(self):
        told = "#.abcdefghijkl"
        for sign in [chr(number) for number in range(ord("!"), ord("~") + 1) if chr(number) not in told]:
            self.refuses(rows("hall", "." + sign), 1)
            self.refuses(rows("hall", "..", sign + ".", "a any"), 2)
            self.refuses(rows("hall", "abcdef", "ghijkl", "....." + sign, "a any"), 3)

    def test_another_number_of_signs_than_row_1(self):
        self.refuses(rows("hall", "..", "..."), 2)
        self.refuses(rows("hall", "..", "."), 2)
        self.refuses(rows("hall", "..", "..", "...", ".."), 3)
        self.refuses(rows("hall", "...", "..", "..", ".."), 2)

    def test_the_first_such_row(self):
        self.refuses(rows("hall", "..", ".", "m.", ""), 2)
        self.refuses(rows("hall", "..", "m.", ".", ""), 2)
        self.refuses(rows("hall", *["."] * 8, "", "."), 9)
        self.refuses(rows("hall", *["."] * 9, "m"), 10)


class TestLetters(Case):
    def test_no_rectangle(self):
        self.refuses(rows("hall", "aa", "a.", "a any"), 1)
        self.refuses(rows("hall", "..", "aa", ".a", "a any"), 2)
        self.refuses(rows("hall", "a.a", "a any"), 1)
        self.refuses(rows("hall", "a..", "...", "..a", "a any"), 1)
        self.refuses(rows("hall", "..a", "...", "a..", "a any"), 1)
        self.refuses(rows("hall", "aaa", "a.a", "aaa", "a any"), 1)
        self.refuses(rows("hall", ".a.", "aaa", ".a.", "a any"), 1)
        self.refuses(rows("hall", "aba", "a any", "b any"), 1)
        self.refuses(rows("hall", ".aa", "aa.", "a any"), 1)
        self.refuses(rows("hall", "aa.", ".aa", "a any"), 1)

    def test_of_the_least_letter(self):
        # b is met in an earlier row, but a is the lesser letter.
        self.refuses(rows("hall", "b.b", "a.a", "a any", "b any"), 2)
        self.refuses(rows("hall", "b.b", "aaa", "a any", "b any"), 1)
        self.refuses(rows("hall", "c.c", "aaa", "b.b"), 3)

    def test_letter_ahead_not_met(self):
        self.refuses(rows("hall", "..", ".b", "b any"), 2)
        self.refuses(rows("hall", "l", "l any"), 1)
        self.refuses(rows("hall", "ac", "a any", "c any"), 1)
        self.refuses(rows("hall", "d..", "..c", "a..", "a any"), 2)
        # b is no rectangle, and comes ahead of d, ahead of which c is not met.
        self.refuses(rows("hall", "d...", "a..b", "b...", "a any"), 2)
        # c, ahead of which b is not met, comes ahead of d, which is no rectangle.
        self.refuses(rows("hall", "d.d", "..c", "..a", "a any"), 2)

    def test_ahead_of_rows_behind(self):
        self.refuses(rows("hall", "aa", "a.", "x any", "b"), 1)
        self.refuses(rows("hall", "..", "b."), 2)


class TestTrolleyRows(Case):
    def test_not_the_one_due(self):
        for row in ("b any", "a", "a Any", "a any ", " a any", "a  any", "a any  dull", "a any strong ", "a any weak",
                    "a strong", "a strong any", "a any strong dull", "aa any", "A any", "a rows", "a col", ""):
            self.refuses(rows("hall", "a.", "b.", row if " " in row else row + " ", "b any"), 3)
            self.refuses(rows("hall", "b.", "a.", "a any", row if row != "b any" else "a any"), 4)
        self.refuses(rows("hall", "ab", "b any", "a any"), 2)
        self.refuses(rows("hall", "ab", "a any", "a any"), 3)
        self.refuses(rows("hall", "a.", "a any", ".."), 3)

    def test_one_too_many(self):
        self.refuses(rows("hall", "..", "a any"), 2)
        self.refuses(rows("hall", "ab", "a any", "b any", "c any"), 4)
        self.refuses(rows("hall", "ab", "a any", "b any", "b any"), 4)
        self.refuses(rows("hall", "ab", "a any", "b any", ""), 4)
        self.refuses(rows("hall", "ab", "a any", "b any", "", ""), 4)
        self.refuses(rows("hall", "a", "a any") + "\n", 3)
        given = ["hall", "abcdefghi", "jkl......"] + [f"{letter} any" for letter in LETTERS]
        self.assertEqual(len(hall_of(rows(*given))[1]), 12)
        self.refuses(rows(*given, "m any"), 15)

    def test_one_that_never_comes(self):
        self.refuses(rows("hall", "ab"), 2)
        self.refuses(rows("hall", "ab", "a any"), 3)
        self.refuses(rows("hall", "ab", "cc", "a any", "b any"), 5)

    def test_first_of_two_faults(self):
        self.refuses(rows("hall", "ab", "b any"), 2)
        self.refuses(rows("hall", "abc", "a any", "c any"), 3)
        self.refuses(rows("halls", "", ""), 0)
        self.refuses(rows("halls"), 0)
        self.refuses(rows("hall", "a.a", ".m.", "a any"), 2)
        self.refuses(rows("hall", "a.a", "..", "b any"), 2)


class TestSpoiled(Case):
    SIGNS = "ab c.#lm~"

    def test_spoiled_texts(self):
        # Each answered or refused as the second reading does.
        chance = random.Random(77)
        refused, read = {}, 0
        for hall, stand in SOME_HALLS[:150] + SMALL_HALLS[:50]:
            text = hall_text(hall, stand)
            for k in range(40):
                spoiled = self.spoiled(chance, text)
                try:
                    expected = plain_hall_of(spoiled)
                except PlainBadRow as refusal:
                    self.refuses(spoiled, refusal.args[0])
                    refused[refusal.args[0]] = refused.get(refusal.args[0], 0) + 1
                else:
                    self.assertEqual(hall_of(spoiled), expected)
                    read += 1
        self.assertGreater(read, 100)
        self.assertGreater(len(refused), 15)

    def spoiled(self, chance, text):
        given = text.split("\n")
        k = chance.randrange(len(given))
        deed = chance.randrange(6)
        if deed == 0:
            given.pop(k)
        elif deed == 1:
            given.insert(k, given[chance.randrange(len(given))])
        elif deed == 2:
            given.insert(k, chance.choice(("", "a any", "b row dull", "..", "hall", " ")))
        elif deed == 3:
            other = chance.randrange(len(given))
            given[k], given[other] = given[other], given[k]
        else:
            for many in range(chance.randint(1, 3)):
                row = given[k]
                at = chance.randrange(len(row) + 1)
                given[k] = row[:at] + chance.choice(self.SIGNS) + row[at + chance.choice((0, 1, 1, 1)):]
                k = chance.randrange(len(given))
        return "\n".join(given)


class TestTold(unittest.TestCase):
    def test_nothing_handed_in_is_changed(self):
        hall, stand = hall_of(KITCHEN)
        before = copy.deepcopy((hall, stand))
        self.assertEqual(hall_text(hall, stand), hall_text(hall, stand))
        self.assertEqual(hall_of(KITCHEN), hall_of(KITCHEN))
        self.assertEqual((hall, stand), before)

    def test_refusal_stands_straight_under_hall_error(self):
        self.assertEqual(BadRow.__bases__, (HallError,))


if __name__ == "__main__":
    unittest.main()
