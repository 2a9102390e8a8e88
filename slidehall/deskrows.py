"""The further rows of a desk's text, read."""

from slidehall.errors import BadRow
from slidehall.halls import within
from slidehall.texts import LETTERS

WAY_WORDS = ("east", "north", "west", "south")
PLAIN_ASKS = ("back", "show", "pushes", "parts", "number", "come", "home")
COSTS = ("pushes", "steps")
FIGURES = "0123456789"
SMALL_LETTERS = "abcdefghijklmnopqrstuvwxyz"
LONGEST_NAME = 8
MOST_STEPS = 9


def number_in(word):
    # None where it isn't written in plain figures.
    if word == "" or not all([sign in FIGURES for sign in word]):
        return None
    if word[0] == "0" and word != "0":
        return None
    return int(word)


def trolley_in(hall, word):
    letters = list(LETTERS[:len(hall[3])])
    if word not in letters:
        return None
    return letters.index(word)


def is_name(word):
    return 1 <= len(word) <= LONGEST_NAME and all([sign in SMALL_LETTERS for sign in word])


def read_door(hall, doors, words):
    if len(words) != 4 or not is_name(words[1]) or words[1] in doors:
        return None
    x, y = number_in(words[2]), number_in(words[3])
    if x is None or y is None or not within(hall[0], hall[1], (x, y)):
        return None
    return ("door", words[1], (x, y))


def read_push(hall, words):
    if len(words) != 4 or words[2] not in WAY_WORDS:
        return None
    n, many = trolley_in(hall, words[1]), number_in(words[3])
    if n is None or many is None or not 1 <= many <= MOST_STEPS:
        return None
    return ("push", (n, WAY_WORDS.index(words[2]), many))


def read_least(hall, doors, words):
    if len(words) < 2 or words[1] not in COSTS or len(words) % 2 == 1:
        return None
    goals = []
    for k in range(2, len(words), 2):
        n = trolley_in(hall, words[k])
        if n is None or words[k + 1] not in doors:
            return None
        goals.append((n, doors[words[k + 1]]))
    return ("least", goals, words[1])


def read_row(hall, doors, row):
    # A tuple that begins with the row's first word; None where the row is not as it must be.
    words = row.split(" ")
    if words[0] == "door":
        return read_door(hall, doors, words)
    if words[0] == "push":
        return read_push(hall, words)
    if words[0] == "least":
        return read_least(hall, doors, words)
    if len(words) == 1 and words[0] in PLAIN_ASKS:
        return (words[0],)
    return None


def read_rows(hall, rows, ahead):
    # All but doors; ahead is how many rows lie ahead of these in the text.
    doors = {}
    deeds = []
    for number, row in enumerate(rows, start=ahead):
        deed = read_row(hall, doors, row)
        if deed is None:
            raise BadRow(number)
        if deed[0] == "door":
            doors[deed[1]] = deed[2]
        else:
            deeds.append(deed)
    return deeds
