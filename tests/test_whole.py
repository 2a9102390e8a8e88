"""What is promised over the whole program."""

import importlib
import random
import unittest

from plain import ONE_WAY_HALLS, PARTED_HALLS, SMALL_HALLS, SOME_HALLS, plain_come_to, plain_ends, some_goals
from plaintexts import LETTERS, WAY_NAMES, plain_push_text
from slidehall.deadends import dead, no_return
from slidehall.desk import run
from slidehall.errors import HallError, TooMany
from slidehall.judging import judged, meeting
from slidehall.keeping import kept, unlike
from slidehall.leastcheck import shows_least
from slidehall.leasts import least
from slidehall.mending import mended, put_in
from slidehall.nevercheck import shows_never
from slidehall.numbering import many_stands, number_of, stand_of
from slidehall.partcheck import shows_by_parts
from slidehall.parting import least_by_parts, parts
from slidehall.pushing import all_pushes, back_of, pushed
from slidehall.rows import cost_of, meets, played, taken_back
from slidehall.spreading import come_to
from slidehall.texts import hall_of, hall_text

NAMES = {
    "errors": "HallError Barred TooMany NoRoom NoStand BadRow",
    "halls": "is_hall covered fault_of is_stand free_cells",
    "pushing": "movers pushed all_pushes gone_along back_of",
    "rows": "played taken_back put_together cost_of meets",
    "spreading": "layers come_to",
    "leasts": "least",
    "leastcheck": "shows_least",
    "keeping": "sides lines ring_order sign kept unlike",
    "judging": "judged meeting",
    "nevercheck": "shows_never",
    "deadends": "dead no_return",
    "parting": "reach_of parts part_of least_by_parts",
    "partcheck": "shows_by_parts",
    "mending": "put_in mended",
    "numbering": "many_stands number_of stand_of",
    "texts": "hall_text hall_of",
    "desk": "run",
}
SOME = ONE_WAY_HALLS[::3] + SMALL_HALLS[::6] + PARTED_HALLS[::4]


class TestInterface(unittest.TestCase):
    def test_all_names_of_all_files(self):
        for module, names in NAMES.items():
            for name in names.split():
                thing = getattr(importlib.import_module(f"slidehall.{module}"), name)
                self.assertTrue(callable(thing), name)
                self.assertEqual(thing.__module__, f"slidehall.{module}")

    def test_all_refusals_stand_straight_under_hall_error(self):
        errors = importlib.import_module("slidehall.errors")
        self.assertEqual(HallError.__bases__, (ValueError,))
        for name in NAMES["errors"].split()[1:]:
            self.assertEqual(getattr(errors, name).__bases__, (HallError,))


class TestRows(unittest.TestCase):
    def test_told_rows(self):
        # Let by, ending as asked, costing what is told, none less by the paper, kept before and behind every push.
        chance = random.Random(51)
        for hall, stand in SOME:
            goals = some_goals(chance, hall, stand, chance.choice((0, 1, 2)))
            for by in ("pushes", "steps"):
                told = least(hall, stand, goals, by)
                by_parts = least_by_parts(hall, stand, goals, by)
                self.assertTrue(shows_least(hall, stand, goals, by, told))
                self.assertTrue(shows_by_parts(hall, stand, goals, by, by_parts))
                self.assertEqual(by_parts[0], told[0])
                if told[0] == "none":
                    self.assertEqual(dead(hall, stand, goals), come_to(hall, stand))
                    continue
                self.assertEqual(by_parts[2], told[2])
                for pushes in (told[1], by_parts[1]):
                    stands = played(hall, stand, pushes)
                    self.assertTrue(meets(hall, stands[-1], goals))
                    self.assertEqual(cost_of(pushes, by), told[2])
                    self.assertEqual({kept(hall, end) for end in stands}, {kept(hall, stand)})
                    self.assertEqual(mended(hall, stand, pushes, goals, by)[0], len(pushes))

    def test_long_rows(self):
        chance = random.Random(52)
        for hall, stand in SOME_HALLS[:60]:
            pushes, now = [], stand
            for k in range(15):
                if all_pushes(hall, now):
                    pushes.append(chance.choice(all_pushes(hall, now)))
                    now = pushed(hall, now, pushes[-1])
            stands = played(hall, stand, pushes)
            self.assertTrue(all(unlike(hall, stand, end) is None for end in stands))
            backs = taken_back(hall, stand, pushes)
            if backs is not None:
                self.assertEqual(played(hall, now, backs), stands[::-1])


class TestNever(unittest.TestCase):
    def test_judged(self):
        chance = random.Random(53)
        words = {"row": 0, "kept": 0, "closed": 0, "open": 0}
        for hall, stand in SOME:
            many = many_stands_or_none(hall)
            if many is None:
                continue
            for k in range(6):
                other = stand_of(hall, chance.randrange(many))
                told = judged(hall, stand, other, chance.choice((0, 1, 2, 300)))
                words[told[0]] += 1
                reached = other in plain_come_to(hall, stand)
                self.assertEqual(meeting(hall, stand, other)[0] == "row", reached)
                self.assertEqual(shows_never(hall, stand, other, told), told[0] in ("kept", "closed"))
                if told[0] == "row":
                    self.assertEqual(played(hall, stand, told[1])[-1], other)
                elif told[0] != "open":
                    self.assertFalse(reached)
                else:
                    self.assertIsNone(unlike(hall, stand, other))
        self.assertTrue(all(count > 5 for count in words.values()), words)

    def test_pushes_of_no_return(self):
        some = 0
        for hall, stand in ONE_WAY_HALLS:
            lost = no_return(hall, stand)
            for push in all_pushes(hall, stand):
                never = meeting(hall, pushed(hall, stand, push), stand)
                self.assertEqual(push in lost, never[0] != "row")
                self.assertTrue(push not in lost or back_of(hall, stand, push) is None)
                some += push in lost
        self.assertGreater(some, 20)


def many_stands_or_none(hall):
    try:
        return many_stands(hall)
    except TooMany:
        return None


class TestNumbersAndTexts(unittest.TestCase):
    def test_number_and_stand_undo_one_another(self):
        for hall, stand in SOME:
            if many_stands_or_none(hall):
                self.assertEqual(stand_of(hall, number_of(hall, stand)), stand)

    def test_text_read_and_written_again(self):
        for hall, stand in SOME_HALLS + SOME:
            text = hall_text(hall, stand)
            self.assertEqual(hall_of(text), (hall, stand))
            self.assertEqual(hall_text(*hall_of(text)), text)

    def test_one_put_in_by_text(self):
        hall, stand = hall_of("hall\na..\na any")
        self.assertEqual(hall_text(*put_in(hall, stand, (2, 1, "row", -1), (1, 0))), "hall\nabb\na any\nb row dull")

    def test_desk_goes_along_with_the_functions(self):
        chance = random.Random(54)
        for hall, stand in SOME + SOME_HALLS[:12]:
            text, now = hall_text(hall, stand) + "\n", stand
            pushes = []
            for k in range(4):
                if plain_ends(hall, now):
                    push, now = chance.choice(plain_ends(hall, now))
                    pushes.append("push " + plain_push_text(push))
            asks = ["show", "pushes", "parts", "number", "come", "home", "least steps"]
            answers = run("\n".join([text] + pushes + asks))
            self.assertEqual(answers[:len(pushes)], ["done"] * len(pushes))
            self.assertEqual(answers[len(pushes):], self.told(hall, stand, now))

    def told(self, hall, first, now):
        def or_refused(asked):
            try:
                return asked()
            except TooMany:
                return "refused TooMany"

        written = [f"{LETTERS[n]} {WAY_NAMES[direction]} {many}" for n, direction, many in all_pushes(hall, now)]
        return [
            "/".join(hall_text(hall, now).split("\n")[1:1 + hall[1]]),
            " ; ".join(written) or "-",
            " ".join("".join(LETTERS[n] for n in part) for part in parts(hall, now)) or "-",
            or_refused(lambda: str(number_of(hall, now))),
            or_refused(lambda: str(len(come_to(hall, now)))),
            or_refused(lambda: "yes" if first in come_to(hall, now) else "no"),
            or_refused(lambda: "row {} {} : -".format(*least(hall, now, [], "steps")[2])),
        ]


if __name__ == "__main__":
    unittest.main()
