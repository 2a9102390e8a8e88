import random
import unittest

from plain import ONE_WAY_HALLS, PARTED_HALLS, SMALL_HALLS, plain_ends, some_goals
from plaintexts import (
    LETTERS, PlainBadRow, WAY_NAMES, plain_hall_text, plain_push_text, plain_right_answers, plain_rows, pushes_in,
)
from slidehall.desk import run
from slidehall.errors import BadRow
from slidehall.texts import hall_text

# A strong one, a dull one east of it, and a weak one in a lane of its own.
LANE = ("hall", "c....", "#####", ".ab..", "a any strong", "b row dull", "c row", "")
FIRST = len(LANE)
# Twelve strong ones in the widest hall: far too many stands of all sorts.
VAST = ("hall", "." * 9, "." * 9, "abcdefghi", "jkl......")
VAST += tuple(f"{letter} any strong" for letter in LETTERS) + ("",)
# Two weak ones in 54 cells: 2,862 stands are come to, but these are still numbered.
WIDE = ("hall", "a........") + ("." * 9,) * 4 + ("........b", "a any", "b any", "")


def text_of(hall_rows, *further):
    return "\n".join(hall_rows + further)


class Case(unittest.TestCase):
    def answers(self, hall_rows, *pairs):
        # Pairs of a row and its answer, None for a door.
        text = text_of(hall_rows, *[row for row, answer in pairs])
        self.assertEqual(run(text), [answer for row, answer in pairs if answer is not None])

    def refuses(self, text, row):
        with self.assertRaises(BadRow) as caught:
            run(text)
        self.assertEqual(caught.exception.row, row, text)
        with self.assertRaises(PlainBadRow) as caught:
            plain_rows(text)
        self.assertEqual(caught.exception.args, (row,), text)


class TestPush(Case):
    def test_done_and_barred(self):
        self.answers(LANE, ("push a west 1", "done"), ("push a west 1", "barred 0"), ("push a east 9", "barred 3"),
                     ("push a east 3", "done"), ("push b east 1", "barred 0"), ("push c east 4", "done"),
                     ("push c south 1", "barred 0"), ("push a north 1", "barred 0"), ("push c west 5", "barred 4"),
                     ("show", "....c/#####/...ab"))

    def test_barred_does_nothing(self):
        self.answers(LANE, ("push a east 3", "barred 2"), ("show", "c..../#####/.ab.."))

    def test_each_way(self):
        hall = ("hall", "...", ".a.", "...", "a any", "")
        self.answers(hall, ("push a east 1", "done"), ("push a north 1", "done"), ("show", "..a/.../..."),
                     ("push a west 2", "done"), ("push a south 2", "done"), ("show", ".../.../a.."))


class TestBack(Case):
    def test_none(self):
        self.answers(LANE, ("back", "none"), ("back", "none"), ("push a west 1", "done"), ("back", "done"),
                     ("back", "none"), ("show", "c..../#####/.ab.."))

    def test_behind_a_barred_push(self):
        self.answers(LANE, ("push a west 2", "barred 1"), ("back", "none"), ("push a west 1", "done"),
                     ("push a west 1", "barred 0"), ("back", "done"), ("show", "c..../#####/.ab.."), ("back", "none"))

    def test_others_gone_along(self):
        self.answers(LANE, ("push a east 1", "done"), ("back", "one way"), ("show", "c..../#####/..ab."),
                     ("back", "one way"), ("push c east 2", "done"), ("back", "done"), ("back", "one way"),
                     ("push a west 2", "done"), ("push a east 1", "done"), ("back", "done"), ("back", "done"),
                     ("show", "c..../#####/..ab."), ("back", "one way"))

    def test_twice(self):
        self.answers(LANE, ("push a west 1", "done"), ("push c east 3", "done"), ("back", "done"),
                     ("show", "c..../#####/a.b.."), ("back", "done"), ("show", "c..../#####/.ab.."), ("back", "none"))

    def test_others_go_at_a_later_step(self):
        self.answers(LANE, ("push a west 1", "done"), ("push a east 2", "done"), ("back", "one way"))

    def test_a_weak_one_gone_along(self):
        # It could go back by itself, but the push can't be taken back by one.
        hall = ("hall", "ab..", "a any strong", "b any", "")
        self.answers(hall, ("push a east 1", "done"), ("back", "one way"), ("home", "yes"))


class TestShow(Case):
    def test_one_row(self):
        self.answers(("hall", ".a#", "a any", ""), ("show", ".a#"), ("push a west 1", "done"), ("show", "a.#"))

    def test_greater_ones(self):
        hall = ("hall", "aa..", "aab.", "a row strong", "b any", "")
        self.answers(hall, ("push a east 1", "done"), ("show", ".aa./.aab"))


class TestPushes(Case):
    def test_all(self):
        self.answers(LANE, ("pushes", "a east 1 ; a east 2 ; a west 1 ; c east 1 ; c east 2 ; c east 3 ; c east 4"),
                     ("push a west 1", "done"),
                     ("pushes", "a east 1 ; a east 2 ; a east 3 ; c east 1 ; c east 2 ; c east 3 ; c east 4"))

    def test_each_way(self):
        self.answers(("hall", "...", ".a.", "...", "a any", ""),
                     ("pushes", "a east 1 ; a north 1 ; a west 1 ; a south 1"))

    def test_none(self):
        self.answers(("hall", "a", "a any", ""), ("pushes", "-"))
        self.answers(("hall", ".", ""), ("pushes", "-"))


class TestLeast(Case):
    def test_by_each(self):
        hall = ("hall", "....", ".##.", ".##.", ".#..", "...#", "a.##", "a any", "")
        run_of = run(text_of(hall, "door up 3 3", "least pushes a up", "least steps a up"))
        self.assertEqual(run_of[0], "row 3 10 : a north 5 ; a east 3 ; a south 2")
        self.assertTrue(run_of[1].startswith("row 6 5 : a north 1 ; "))

    def test_no_pairs(self):
        self.answers(LANE, ("least pushes", "row 0 0 : -"), ("least steps", "row 0 0 : -"))

    def test_several(self):
        self.answers(LANE, ("door far 4 0", None), ("door near 0 0", None), ("door top 2 2", None),
                     ("least pushes b far", "row 1 2 : a east 2"), ("least steps b far", "row 2 1 : a east 2"),
                     ("least pushes b far a near", "row 2 5 : a east 2 ; a west 3"),
                     ("least steps b far a near", "row 5 2 : a east 2 ; a west 3"),
                     ("least pushes c top", "row 1 2 : c east 2"), ("least pushes c far", "never"),
                     ("push a east 2", "done"), ("least pushes b far", "row 0 0 : -"))

    def test_two_for_one_trolley(self):
        self.answers(LANE, ("door one 3 0", None), ("door other 4 0", None), ("least pushes b one b other", "never"),
                     ("least steps b one b one", "row 1 1 : a east 1"))
        self.answers(("hall", "aa..", "a row", ""), ("door one 2 0", None), ("door other 3 0", None),
                     ("least steps a other a one", "row 2 1 : a east 2"))

    def test_never(self):
        self.answers(LANE, ("door wall 0 1", None), ("door start 1 0", None), ("least steps a wall", "never"),
                     ("least pushes b start", "never"), ("least pushes a start", "row 0 0 : -"))

    def test_row_is_let_by(self):
        hall = ("hall", ".....", "a.b..", ".....", "a any strong", "b any dull", "")
        answer = run(text_of(hall, "door goal 0 1", "least steps b goal"))[0]
        pushes = [f"push {part}" for part in answer.partition(" : ")[2].split(" ; ")]
        self.assertEqual(run(text_of(hall, *pushes))[:-1], ["done"] * (len(pushes) - 1))
        shown = run(text_of(hall, *pushes, "show"))[-1]
        self.assertEqual(shown.split("/")[1][0], "b")
        self.assertEqual(int(answer.split(" ")[1]), sum(push[2] for push in pushes_in(answer.partition(" : ")[2])))


class TestOtherAsks(Case):
    def test_parts(self):
        self.answers(LANE, ("parts", "ab c"))
        self.answers(("hall", "ab.", "cd.", "a row", "b column", "c none", "d none", ""), ("parts", "abd c"))
        self.answers(("hall", "a.b", "c.d", "a row", "b row", "c row", "d row", ""), ("parts", "ab cd"))
        self.answers(("hall", "a.c", "b.d", "a row", "b row", "c row", "d row", ""), ("parts", "ac bd"))

    def test_parts_of_none(self):
        self.answers(("hall", ".", ""), ("parts", "-"))

    def test_number(self):
        self.answers(("hall", "a.", "..", "a any", ""), ("number", "1"), ("push a south 1", "done"), ("number", "0"),
                     ("push a east 1", "done"), ("number", "2"), ("back", "done"), ("number", "0"))
        self.answers(("hall", ".", ""), ("number", "0"))

    def test_come(self):
        self.answers(("hall", "a....", "a row", ""), ("come", "5"))
        # The fewer, the further the dull one is pushed.
        self.answers(("hall", "ab..", "a row strong", "b row dull", ""), ("come", "6"), ("push a east 1", "done"),
                     ("come", "5"), ("push a east 1", "done"), ("come", "3"))
        self.answers(("hall", ".", ""), ("come", "1"))

    def test_home(self):
        self.answers(LANE, ("home", "yes"), ("push a west 1", "done"), ("home", "yes"), ("push a east 2", "done"),
                     ("home", "no"), ("back", "one way"), ("home", "no"), ("push c east 1", "done"), ("home", "no"))
        self.answers(("hall", ".", ""), ("home", "yes"))


class TestTooMany(Case):
    def test_each_ask_that_can_be(self):
        refused = "refused TooMany"
        self.answers(VAST, ("door one 0 0", None), ("least pushes", refused), ("least steps a one", refused),
                     ("number", refused), ("come", refused), ("home", refused), ("parts", LETTERS),
                     ("push j east 9", "barred 6"), ("push j east 6", "done"), ("back", "one way"), ("home", refused))

    def test_one_goes_on_behind_it(self):
        self.answers(VAST, ("come", "refused TooMany"), ("show", "/".join(VAST[1:5])), ("back", "none"))

    def test_numbered_where_too_many_are_come_to(self):
        self.answers(WIDE, ("come", "refused TooMany"), ("number", str(5 * 53 + 47)), ("home", "refused TooMany"),
                     ("least steps", "refused TooMany"), ("parts", "ab"))

    def test_come_to_where_too_many_are_numbered(self):
        wall = "#" * 9
        hall = ("hall", "........c", wall, "........b", wall, "........a", "a none", "b none", "c row", "")
        self.answers(hall, ("number", "refused TooMany"), ("come", "9"), ("home", "yes"),
                     ("least pushes", "row 0 0 : -"))


class TestDoors(Case):
    def test_ahead_of_the_asks_that_name_them(self):
        self.answers(LANE, ("show", "c..../#####/.ab.."), ("door one 0 0", None), ("push a west 1", "done"),
                     ("door two 1 0", None), ("least pushes a one", "row 0 0 : -"),
                     ("least pushes a two", "row 1 1 : a east 1"), ("door three 2 0", None))

    def test_behind_the_asks_that_name_them(self):
        self.refuses(text_of(LANE, "least pushes a one", "door one 0 0"), FIRST)
        self.refuses(text_of(LANE, "door two 0 0", "least pushes a two a one", "door one 0 0"), FIRST + 1)

    def test_name_twice(self):
        self.refuses(text_of(LANE, "door one 0 0", "door one 1 0"), FIRST + 1)
        self.refuses(text_of(LANE, "door one 0 0", "door two 0 0", "show", "door one 0 0"), FIRST + 3)

    def test_one_cell_by_two_names(self):
        self.answers(LANE, ("door one 0 0", None), ("door other 0 0", None),
                     ("least steps a one a other", "row 1 1 : a west 1"))

    def test_names(self):
        for name in ("a", "abcdefgh", "door", "east", "least", "zzzzzzzz", "pushes"):
            self.answers(LANE, (f"door {name} 0 0", None), (f"least steps a {name}", "row 1 1 : a west 1"))
        for name in ("abcdefghi", "A", "aB", "a1", "1", "-", "one_two", "a.b", "{", "`", "~"):
            self.refuses(text_of(LANE, f"door {name} 0 0"), FIRST)
        self.refuses(text_of(LANE, "door  0 0"), FIRST)

    def test_cells(self):
        for cell in ("0 0", "4 2", "4 0", "0 2", "3 1"):
            self.answers(LANE, (f"door one {cell}", None))
        for cell in ("5 0", "0 3", "5 3", "2 4", "-1 0", "0 -1", "10 0", "0 10", "00 0", "0 00", "01 0", "0 01",
                     "+1 0", "1. 0", "x 0", "0 y", "1", "1 1 1", "", "9" * 30 + " 0", "a 0", "0x1 0"):
            self.refuses(text_of(LANE, f"door one {cell}"), FIRST)

    def test_of_a_great_hall(self):
        hall = ("hall",) + ("." * 9,) * 8 + ("a" + "." * 8, "a any", "")
        self.assertEqual(run(text_of(hall, "door far 8 8", "least pushes a far"))[0][:11], "row 2 16 : ")
        self.refuses(text_of(hall, "door far 9 8"), len(hall))
        self.refuses(text_of(hall, "door far 8 9"), len(hall))


class TestBadRows(Case):
    def test_blanks(self):
        for row in ("show ", " show", "push  a east 1", "push a  east 1", "push a east  1", "push a east 1 ",
                    " push a east 1", "least  steps", "least steps ", "least steps a  one", " ", "  ", "", "show\t",
                    "push a east ", "push  east 1", "push a  1", "push   ", "door two 0 ", "door two  0", "door two  ",
                    "door  0 0", "least ", "least steps  one", "least steps a ", "least  a one"):
            self.refuses(text_of(LANE, "door one 0 0", row), FIRST + 1)

    def test_empty_further_row(self):
        self.refuses(text_of(LANE, "show", ""), FIRST + 1)
        self.refuses(text_of(LANE, "", "show"), FIRST)
        self.refuses(text_of(LANE, "show", "", "show"), FIRST + 1)

    def test_words_too_many_or_too_few(self):
        for row in ("show now", "back a", "back 1", "pushes a", "parts a", "number 1", "come to", "home a", "push",
                    "push a", "push a east", "push a east 1 1", "push a east 1 b", "least", "least a", "least steps a",
                    "least pushes a one a", "least a one", "least steps one", "door", "door two", "door two 0",
                    "door two 0 0 0", "least steps one a"):
            self.refuses(text_of(LANE, "door one 0 0", row), FIRST + 1)

    def test_other_words(self):
        for row in ("Show", "shows", "sho", "go", "hall", "push a up 1", "push a East 1", "push a 0 1",
                    "push a east one", "least push a one", "least Steps", "least a", "push east a 1", "a east 1",
                    "push a eas 1", "a any"):
            self.refuses(text_of(LANE, "door one 0 0", row), FIRST + 1)

    def test_letters_that_are_no_trolley(self):
        for letter in ("d", "l", "m", "A", "ab", "abc", "bc", "#", ".", "0", "-"):
            self.refuses(text_of(LANE, f"push {letter} east 1"), FIRST)
            self.refuses(text_of(LANE, "door one 0 0", f"least steps a one {letter} one"), FIRST + 1)
        self.refuses(text_of(("hall", ".", ""), "push a east 1"), 3)
        self.refuses(text_of(("hall", ".", ""), "door one 0 0", "least steps a one"), 4)

    def test_doors_that_are_not_there(self):
        for door in ("two", "on", "ones", "ONE", "o", "abcdefghi", "0"):
            self.refuses(text_of(LANE, "door one 0 0", f"least steps a {door}"), FIRST + 1)

    def test_numbers_of_steps(self):
        for number in ("0", "10", "11", "01", "00", "-1", "+1", "1.", "x", "999999", "1a"):
            self.refuses(text_of(LANE, f"push a west {number}"), FIRST)
        for number in range(1, 10):
            self.assertEqual(len(run(text_of(LANE, f"push a west {number}"))), 1)

    def test_ahead_of_all_answers(self):
        self.refuses(text_of(VAST, "come", "least steps", "number", "gone"), len(VAST) + 3)
        self.refuses(text_of(LANE, "show", "push a west 1", "push d west 1", "shows"), FIRST + 2)

    def test_first_of_two(self):
        self.refuses(text_of(LANE, "door one 9 9", "least steps a one"), FIRST)
        self.refuses(text_of(LANE, "least steps a one", "door one 9 9"), FIRST)


class TestHallRows(Case):
    def test_without_an_empty_row(self):
        self.assertEqual(run("\n".join(LANE[:-1])), [])
        self.assertEqual(run("hall\n."), [])

    def test_without_further_rows(self):
        self.assertEqual(run("\n".join(LANE)), [])
        self.assertEqual(run("hall\n.\n"), [])
        self.refuses("hall\n.\n\n", 3)

    def test_bad_rows_of_the_hall(self):
        self.refuses("", 0)
        self.refuses("\n", 0)
        self.refuses("\nhall\n.", 0)
        self.refuses("Hall\n.\n\nshow", 0)
        self.refuses("hall", 1)
        self.refuses("hall\n", 1)
        self.refuses("hall\n\nshow", 1)
        self.refuses("hall\na any\n\nshow", 1)
        self.refuses("hall\n..\n.\n\nshow", 2)
        self.refuses("hall\naa\na.\na any\n\nshow", 1)
        self.refuses("hall\n.b\nb any\n\nshow", 1)
        self.refuses("hall\na.\na many\n\nshow", 2)
        self.refuses("hall\na.\na any\nb any\n\nshow", 3)
        self.refuses("hall\na.\n\nshow", 2)
        self.refuses("hall\nab\na any\n\nshow", 3)
        self.refuses("hall\nab\na any", 3)
        self.refuses("hall\n" + ".\n" * 10 + "\nshow", 10)

    def test_ahead_of_further_rows(self):
        self.refuses("hall\na.\na any\nshow\n\nshow", 3)
        self.refuses("hall\na.\n\na any\n\nshow", 2)
        self.refuses("hall\na.\na many\n\nshows", 2)


class TestOverTheWhole(Case):
    def is_refused(self, text):
        # By the second reading, and then with the same row.
        try:
            plain_rows(text)
        except PlainBadRow as refusal:
            self.refuses(text, refusal.args[0])
            return True
        run(text)
        return False

    def row(self, chance, hall, now, names):
        # now is the stand as long as nothing is taken back, so that most pushes are let by.
        word = chance.choice(("push",) * 10 + ("back",) * 3 + ("show", "pushes", "least", "least", "parts", "number",
                                                              "come", "home", "home"))
        letters = LETTERS[:len(hall[3])]
        if word == "push" and plain_ends(hall, now[0]) and chance.random() < 0.7:
            push, now[0] = chance.choice(plain_ends(hall, now[0]))
            return "push " + plain_push_text(push)
        if word == "push":
            return f"push {chance.choice(letters)} {chance.choice(WAY_NAMES)} {chance.choice((1, 1, 1, 2, 2, 3, 9))}"
        if word == "least":
            pairs = [f" {chance.choice(letters)} {chance.choice(names)}" for k in range(chance.randint(0, 2))]
            return f"least {chance.choice(('pushes', 'steps'))}" + "".join(pairs)
        return word

    def some_text(self, chance, hall, stand):
        doors = ["one", "two", "three"]
        goals = some_goals(chance, hall, stand, 3)
        further = [f"door {name} {cell[0]} {cell[1]}" for name, (n, cell) in zip(doors, goals)]
        now = [stand]
        further += [self.row(chance, hall, now, doors) for k in range(25)]
        return "\n".join([plain_hall_text(hall, stand), ""] + further)

    def halls(self):
        found = ONE_WAY_HALLS[::2] + SMALL_HALLS[::6] + PARTED_HALLS[::4]
        return [(hall, stand) for hall, stand in found if len(stand) <= 3]

    def test_by_the_words(self):
        chance = random.Random(31)
        told = {}
        for hall, stand in self.halls():
            text = self.some_text(chance, hall, stand)
            answers = run(text)
            self.assertTrue(plain_right_answers(text, answers), text)
            self.assertTrue(all(answer.__class__ is str for answer in answers))
            for answer in answers:
                told[answer.split(" ")[0]] = told.get(answer.split(" ")[0], 0) + 1
        for word in ("done", "barred", "one", "none", "row", "never", "yes", "no"):
            self.assertGreater(told.get(word, 0), 10, told)

    def test_spoiled_rows(self):
        chance = random.Random(32)
        refused = 0
        for hall, stand in self.halls()[:30]:
            rows = self.some_text(chance, hall, stand).split("\n")
            for k in range(12):
                number = chance.randrange(len(rows))
                at = chance.randrange(len(rows[number]) + 1)
                changed = rows[number][:at] + chance.choice("ab 019lzA;") + rows[number][at + chance.choice((0, 1)):]
                text = "\n".join(rows[:number] + [changed] + rows[number + 1:])
                refused += self.is_refused(text)
        self.assertGreater(refused, 200)

    def test_rows_taken_out(self):
        chance = random.Random(33)
        refused = 0
        for hall, stand in self.halls()[:15]:
            rows = self.some_text(chance, hall, stand).split("\n")
            for number in range(len(rows)):
                refused += self.is_refused("\n".join(rows[:number] + rows[number + 1:]))
        self.assertGreater(refused, 50)

    def test_told_anew(self):
        text = text_of(LANE, "show", "push a west 1", "back", "show", "least steps")
        told = run(text)
        before = list(told)
        told.append("more")
        self.assertEqual(run(text), before)
        self.assertEqual(run(hall_text((1, 1, (), ()), ()) + "\n"), [])


if __name__ == "__main__":
    unittest.main()
