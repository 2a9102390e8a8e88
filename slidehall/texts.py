"""Halls with a stand as texts: written, and read."""

from slidehall.errors import BadRow
from slidehall.halls import LONGEST_SIDE, STRENGTHS, WALL, WAYS, covered, holders

LETTERS = "abcdefghijkl"
FIRST_ROW = "hall"
WALL_SIGN = "#"
FREE_SIGN = "."
STRENGTH_WORDS = {1: " strong", 0: "", -1: " dull"}


def sign_at(held, cell):
    if cell not in held:
        return FREE_SIGN
    if held[cell] == WALL:
        return WALL_SIGN
    return LETTERS[held[cell]]


def picture_of(hall, stand):
    held = holders(hall, stand)
    rows = []
    for y in range(hall[1] - 1, -1, -1):
        rows.append("".join([sign_at(held, (x, y)) for x in range(hall[0])]))
    return rows


def trolley_row(n, ways, strong):
    letter = LETTERS[n]
    word = STRENGTH_WORDS[strong]
    return f"{letter} {ways}{word}"


def hall_text(hall, stand):
    trolleys = [trolley_row(n, kind[2], kind[3]) for n, kind in enumerate(hall[3])]
    return "\n".join([FIRST_ROW] + picture_of(hall, stand) + trolleys)


def picture_in(rows):
    picture = []
    for row in rows[1:]:
        if " " in row:
            break
        picture.append(row)
    return picture


def is_picture_row(row, wide):
    signs = WALL_SIGN + FREE_SIGN + LETTERS
    return 1 <= len(row) <= LONGEST_SIDE and len(row) == wide and all([sign in signs for sign in row])


def refuse_picture(picture):
    if picture == []:
        raise BadRow(1)
    for number, row in enumerate(picture, start=1):
        if number > LONGEST_SIDE or not is_picture_row(row, len(picture[0])):
            raise BadRow(number)


def cells_by_sign(picture):
    # For each sign that is met the rising list of its cells.
    cells = {}
    for x in range(len(picture[0])):
        for y in range(len(picture)):
            cells.setdefault(picture[len(picture) - 1 - y][x], []).append((x, y))
    return cells


def size_of(cells):
    # None where they aren't just those of one rectangle.
    least_x, least_y = cells[0]
    last_x, last_y = cells[-1]
    size = (last_x - least_x + 1, last_y - least_y + 1)
    if covered(size, cells[0]) != cells:
        return None
    return size


def refuse_letters(picture, cells):
    all_met = True
    for letter in LETTERS:
        if letter not in cells:
            all_met = False
        elif not all_met or size_of(cells[letter]) is None:
            highest = max([y for x, y in cells[letter]])
            raise BadRow(len(picture) - highest)


def ways_and_strength(n, row):
    # None where it isn't the row of that trolley.
    for ways in WAYS:
        for strong in STRENGTHS:
            if row == trolley_row(n, ways, strong):
                return (ways, strong)
    return None


def kinds_in(rows, ahead, sizes):
    # ahead is how many rows lie ahead of the trolleys' own.
    kinds = []
    for n, row in enumerate(rows[ahead:]):
        told = ways_and_strength(n, row) if n < len(sizes) else None
        if told is None:
            raise BadRow(ahead + n)
        kinds.append(sizes[n] + told)
    if len(kinds) < len(sizes):
        raise BadRow(len(rows))
    return tuple(kinds)


def hall_of(text):
    rows = text.split("\n")
    if rows[0] != FIRST_ROW:
        raise BadRow(0)
    picture = picture_in(rows)
    refuse_picture(picture)
    cells = cells_by_sign(picture)
    refuse_letters(picture, cells)
    trolleys = [cells[letter] for letter in LETTERS if letter in cells]
    kinds = kinds_in(rows, 1 + len(picture), [size_of(own) for own in trolleys])
    walls = tuple(cells.get(WALL_SIGN, []))
    return ((len(picture[0]), len(picture), walls, kinds), tuple([own[0] for own in trolleys]))
