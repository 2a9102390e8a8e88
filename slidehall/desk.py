"""The desk: a text with a hall, deeds and asks, answered one behind the other."""

from slidehall.deskrows import WAY_WORDS, read_rows
from slidehall.errors import Barred, TooMany
from slidehall.leasts import least
from slidehall.numbering import number_of
from slidehall.parting import parts
from slidehall.pushing import all_pushes, back_of, pushed
from slidehall.spreading import come_to
from slidehall.texts import LETTERS, hall_of, picture_of

NOTHING = "-"


class Desk:
    def __init__(self, hall, stand):
        self.hall = hall
        self.first = stand
        self.stand = stand
        # The pushes that were done and not taken back, each with the stand ahead of it.
        self.done = []


def push_text(push):
    n, direction, many = push
    letter = LETTERS[n]
    way = WAY_WORDS[direction]
    return f"{letter} {way} {many}"


def pushes_text(pushes):
    if pushes == []:
        return NOTHING
    return " ; ".join([push_text(push) for push in pushes])


def answer_push(desk, deed):
    push = deed[1]
    try:
        end = pushed(desk.hall, desk.stand, push)
    except Barred as refusal:
        step = refusal.step
        return f"barred {step}"
    desk.done.append((desk.stand, push))
    desk.stand = end
    return "done"


def answer_back(desk, deed):
    if desk.done == []:
        return "none"
    ahead, push = desk.done[-1]
    if back_of(desk.hall, ahead, push) is None:
        return "one way"
    desk.done.pop()
    desk.stand = ahead
    return "done"


def answer_show(desk, deed):
    return "/".join(picture_of(desk.hall, desk.stand))


def answer_pushes(desk, deed):
    return pushes_text(all_pushes(desk.hall, desk.stand))


def answer_least(desk, deed):
    word, goals, by = deed
    told = least(desk.hall, desk.stand, goals, by)
    if told[0] == "none":
        return "never"
    first, second = told[2]
    row = pushes_text(told[1])
    return f"row {first} {second} : {row}"


def answer_parts(desk, deed):
    found = parts(desk.hall, desk.stand)
    if found == []:
        return NOTHING
    return " ".join(["".join([LETTERS[n] for n in numbers]) for numbers in found])


def answer_number(desk, deed):
    return str(number_of(desk.hall, desk.stand))


def answer_come(desk, deed):
    return str(len(come_to(desk.hall, desk.stand)))


def answer_home(desk, deed):
    return "yes" if desk.first in come_to(desk.hall, desk.stand) else "no"


ANSWERS = {
    "push": answer_push, "back": answer_back, "show": answer_show, "pushes": answer_pushes, "least": answer_least,
    "parts": answer_parts, "number": answer_number, "come": answer_come, "home": answer_home,
}


def answered(desk, deed):
    answer = ANSWERS[deed[0]]
    try:
        return answer(desk, deed)
    except TooMany:
        return "refused TooMany"


def run(text):
    rows = text.split("\n")
    ahead = rows.index("") if "" in rows else len(rows)
    hall, stand = hall_of("\n".join(rows[:ahead]))
    deeds = read_rows(hall, rows[ahead + 1:], ahead + 1)
    desk = Desk(hall, stand)
    return [answered(desk, deed) for deed in deeds]
