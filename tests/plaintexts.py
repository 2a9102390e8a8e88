"""The plain second reading of the document, of its texts: what is written, and what is refused."""

import itertools
import re

from plain import (
    cells_of, plain_come_to, plain_costs, plain_ends, plain_floor, plain_is_stand, plain_meets, plain_parts,
)

LETTERS = "abcdefghijkl"
WAY_NAMES = ("east", "north", "west", "south")


class PlainBadRow(Exception):
    pass


def plain_picture(hall, stand):
    signs = {cell: "#" for cell in hall[2]}
    for letter, kind, place in zip(LETTERS, hall[3], stand):
        signs.update(dict.fromkeys(cells_of(kind, place), letter))
    return ["".join(signs.get((x, y), ".") for x in range(hall[0])) for y in range(hall[1])][::-1]


def plain_hall_text(hall, stand):
    rows = ["hall"] + plain_picture(hall, stand)
    for letter, kind in zip(LETTERS, hall[3]):
        rows.append(" ".join([letter, kind[2]] + {1: ["strong"], 0: [], -1: ["dull"]}[kind[3]]))
    return "\n".join(rows)


def plain_hall_of(text):
    rows = text.split("\n")
    if rows[0] != "hall":
        raise PlainBadRow(0)
    picture = list(itertools.takewhile(lambda row: " " not in row, rows[1:]))
    if not picture:
        raise PlainBadRow(1)
    for number, row in enumerate(picture, 1):
        if number == 10 or not re.fullmatch("[#.a-l]{1,9}", row) or len(row) != len(picture[0]):
            raise PlainBadRow(number)
    signs = {(x, len(picture) - 1 - k): sign for k, row in enumerate(picture) for x, sign in enumerate(row)}
    met = sorted(set(signs.values()) - set("#."))
    stand, sizes = [], []
    for n, letter in enumerate(met):
        own = {cell for cell in signs if signs[cell] == letter}
        xs, ys = {x for x, y in own}, {y for x, y in own}
        wide, high = max(xs) - min(xs) + 1, max(ys) - min(ys) + 1
        if letter != LETTERS[n] or own != cells_of((wide, high), (min(xs), min(ys))):
            raise PlainBadRow([letter in row for row in rows[:len(picture) + 1]].index(True, 1))
        stand.append((min(xs), min(ys)))
        sizes.append((wide, high))
    kinds = []
    for number, row in enumerate(rows[len(picture) + 1:], len(picture) + 1):
        due = met[len(kinds)] if len(kinds) < len(met) else "nobody"
        found = re.fullmatch(due + " (any|row|column|none)( strong| dull|)", row)
        if not found:
            raise PlainBadRow(number)
        kinds.append(sizes[len(kinds)] + (found[1], {" strong": 1, "": 0, " dull": -1}[found[2]]))
    if len(kinds) < len(met):
        raise PlainBadRow(len(rows))
    walls = tuple(sorted(cell for cell in signs if signs[cell] == "#"))
    return (len(picture[0]), len(picture), walls, tuple(kinds)), tuple(stand)


def plain_all_stands(hall):
    floor = plain_floor(hall)
    places = [[cell for cell in sorted(floor) if cells_of(kind, cell) <= floor] for kind in hall[3]]
    return [stand for stand in itertools.product(*places) if plain_is_stand(hall, stand)]


def plain_rows(text):
    # The hall, its stand, and of each further row but doors its words and the goals that it names.
    rows = text.split("\n")
    ahead = list(itertools.takewhile(bool, rows))
    hall, stand = plain_hall_of("\n".join(ahead))
    letter = f"[{LETTERS[:len(hall[3])]}]" if hall[3] else "(?!)"
    number_pattern = "(0|[1-9][0-9]*)"
    patterns = ("back|show|pushes|parts|number|come|home", f"push {letter} (east|north|west|south) [1-9]",
                f"least (pushes|steps)( {letter} [a-z]+)*", f"door [a-z]{{1,8}} {number_pattern} {number_pattern}")
    doors, deeds = {}, []
    for number, row in list(enumerate(rows))[len(ahead) + 1:]:
        if not any(re.fullmatch(pattern, row) for pattern in patterns):
            raise PlainBadRow(number)
        words = row.split(" ")
        if words[0] == "door":
            cell = (int(words[2]), int(words[3]))
            if words[1] in doors or cell[0] >= hall[0] or cell[1] >= hall[1]:
                raise PlainBadRow(number)
            doors[words[1]] = cell
        elif words[0] == "least":
            if any(name not in doors for name in words[3::2]):
                raise PlainBadRow(number)
            goals = [(LETTERS.index(name), doors[door]) for name, door in zip(words[2::2], words[3::2])]
            deeds.append((words, goals))
        else:
            deeds.append((words, None))
    return hall, stand, deeds


def plain_push_text(push):
    return f"{LETTERS[push[0]]} {WAY_NAMES[push[1]]} {push[2]}"


def plain_pushes_text(pushes):
    return " ; ".join(map(plain_push_text, pushes)) or "-"


def pushes_in(text):
    if text == "-":
        return []
    words = [part.split(" ") for part in text.split(" ; ")]
    return [(LETTERS.index(letter), WAY_NAMES.index(way), int(many)) for letter, way, many in words]


def plain_end(hall, stand, pushes):
    for push in pushes:
        stand = dict(plain_ends(hall, stand))[push]
    return stand


def is_least_answer(hall, stand, goals, by, answer):
    met = [cost for end, cost in plain_costs(hall, stand, by).items() if plain_meets(hall, end, goals)]
    if not met:
        return answer == "never"
    head = "row {} {} : ".format(*min(met))
    if not answer.startswith(head):
        return False
    pushes = pushes_in(answer[len(head):])
    cost = (len(pushes), sum(push[2] for push in pushes))
    return min(met) == (cost if by == "pushes" else cost[::-1]) and plain_pushes_text(pushes) == answer[len(head):] \
        and plain_meets(hall, plain_end(hall, stand, pushes), goals)


def plain_right_answers(text, answers):
    # Whether these are the answers, by the words, of a text of a small hall.
    hall, stand, deeds = plain_rows(text)
    if type(answers) is not list or len(answers) != len(deeds):
        return False
    stands, pushes = [stand], []
    for (words, goals), answer in zip(deeds, answers):
        now = stands[-1]
        if words[0] == "push":
            n, direction, many = LETTERS.index(words[1]), WAY_NAMES.index(words[2]), int(words[3])
            far = max([push[2] for push, end in plain_ends(hall, now) if push[:2] == (n, direction)], default=0)
            expected = "done" if many <= far else f"barred {far}"
            if many <= far:
                stands.append(dict(plain_ends(hall, now))[n, direction, many])
                pushes.append((n, direction, many))
        elif words[0] == "back":
            alone = pushes and [n for n in range(len(now)) if stands[-2][n] != now[n]] == [pushes[-1][0]]
            expected = "none" if not pushes else "done" if alone else "one way"
            if alone:
                stands.pop()
                pushes.pop()
        elif words[0] == "least":
            expected = answer if is_least_answer(hall, now, goals, words[1], answer) else None
        else:
            expected = plain_answer(hall, stand, now, words[0])
        if answer != expected:
            return False
    return True


def plain_answer(hall, first, now, word):
    if word == "show":
        return "/".join(plain_picture(hall, now))
    if word == "pushes":
        return plain_pushes_text(sorted(push for push, end in plain_ends(hall, now)))
    if word == "parts":
        return " ".join("".join(LETTERS[n] for n in part) for part in plain_parts(hall, now)) or "-"
    if word == "number":
        return str(plain_all_stands(hall).index(now))
    if word == "come":
        return str(len(plain_come_to(hall, now)))
    return "yes" if first in plain_come_to(hall, now) else "no"
