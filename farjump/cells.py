"""Rows by places as cells, and read back from them."""

from farjump.errors import NoCells
from farjump.rows import GREATEST_NUMBER

LAST_PLACE = 65535

# Of each kind of code row: near, the least of its first cells, how many boxes are told in the first cell, and how many
# cells stand behind that one.
CODES = (
    ("set", None, 16, 1, 4),
    ("add", None, 32, 2, 0),
    ("take", None, 48, 2, 0),
    ("say", None, 64, 1, 0),
    ("ask", None, 68, 1, 0),
    ("jump", True, 80, 0, 1),
    ("jump", False, 81, 0, 2),
    ("call", True, 82, 0, 1),
    ("call", False, 83, 0, 2),
    ("jumpif", True, 84, 1, 1),
    ("jumpif", False, 88, 1, 2),
    ("back", None, 98, 0, 0),
    ("stop", None, 99, 0, 0),
    ("jumpby", True, 100, 1, 1),
    ("jumpby", False, 104, 1, 2),
    ("load", True, 112, 2, 1),
    ("load", False, 128, 2, 2),
    ("alike", None, 144, 1, 4),
)

# By how many boxes a first cell tells: how many first cells there are.
FIRST_CELLS = (1, 4, 16)


def place_cells(place):
    return [place // 256, place % 256]


def number_cells(number):
    # The rest by 2 ** 32 is the number itself, or where it is below 0 the number and 2 ** 32.
    above, below = divmod(number % 2 ** 32, 2 ** 16)
    return place_cells(above) + place_cells(below)


def joined(lists):
    cells = []
    for one in lists:
        cells.extend(one)
    return cells


def box_number(boxes):
    number = 0
    for box in boxes:
        number = 4 * number + box
    return number


def code_for(kind, near):
    for code in CODES:
        if code[0] == kind and code[1] == near:
            return code
    return None


def code_cells(row, at, near):
    kind, short, first, boxes, more = code_for(row[0], near)
    ahead = [first + box_number(row[1:1 + boxes])]
    told = row[1 + boxes:]
    if kind == "set":
        return ahead + number_cells(told[0])
    if short is True:
        return ahead + [(told[0] - (at + 2)) % 256]
    return ahead + joined([place_cells(place) for place in told])


def cells_of(row, at, near):
    if row[0] == "numbers":
        return place_cells(len(row[1])) + joined([number_cells(number) for number in row[1]])
    if row[0] == "table":
        return place_cells(len(row[1])) + joined([place_cells(place) for place in row[1]])
    return code_cells(row, at, near)


def place_at(cells, at):
    return 256 * cells[at] + cells[at + 1]


def number_at(cells, at):
    number = 2 ** 16 * place_at(cells, at) + place_at(cells, at + 2)
    return number if number <= GREATEST_NUMBER else number - 2 ** 32


def step_at(cells, at):
    return cells[at] if cells[at] <= 127 else cells[at] - 256


def boxes_in(number, count):
    if count == 0:
        return ()
    if count == 1:
        return (number,)
    return (number // 4, number % 4)


def code_from(cell):
    for code in CODES:
        if 0 <= cell - code[2] < FIRST_CELLS[code[3]]:
            return code
    return None


def told_behind(code, cells, at):
    kind, short, first, boxes, more = code
    if kind == "set":
        return (number_at(cells, at + 1),)
    if short is True:
        return (at + 2 + step_at(cells, at + 1),)
    return tuple([place_at(cells, place) for place in range(at + 1, at + 1 + more, 2)])


def read_code(cells, at):
    if not 0 <= at < len(cells):
        raise NoCells(at)
    code = code_from(cells[at])
    if code is None:
        raise NoCells(at)
    kind, near, first, boxes, more = code
    behind = at + 1 + more
    if behind > len(cells):
        raise NoCells(at)
    row = (kind,) + boxes_in(cells[at] - first, boxes) + told_behind(code, cells, at)
    if near is True and not 0 <= row[-1] <= LAST_PLACE:
        raise NoCells(at)
    return (row, near, behind)


def behind_list(cells, at, cells_for_one):
    if at < 0 or at + 2 > len(cells):
        raise NoCells(at)
    behind = at + 2 + cells_for_one * place_at(cells, at)
    if behind > len(cells):
        raise NoCells(at)
    return behind


def read_numbers(cells, at):
    behind = behind_list(cells, at, 4)
    return ([number_at(cells, place) for place in range(at + 2, behind, 4)], behind)


def read_table(cells, at):
    behind = behind_list(cells, at, 2)
    return ([place_at(cells, place) for place in range(at + 2, behind, 2)], behind)
