"""Parts: looked at for whether they are parts, of rows, each with a row behind it where it needs one."""

from farjump.errors import BadParts, BadRow, NoEnd
from farjump.rows import CodeRow, MarkRow, row_of
from farjump.words import is_word

MOST_PARTS = 12
MOST_ROWS_OF_PART = 60
MOST_ROWS = 200
MOST_MARKS = 200


def counts_as_mark(thing):
    # Also what is no right mark counts as one: it is a wrong row then, not a wrong part.
    return isinstance(thing, tuple) and len(thing) > 0 and isinstance(thing[0], str) and thing[0] == "mark"


def marks_among(things):
    return len([thing for thing in things if counts_as_mark(thing)])


def others_among(things):
    return len(things) - marks_among(things)


def is_part(thing):
    if not isinstance(thing, tuple) or len(thing) != 2:
        return False
    if not is_word(thing[0]) or not isinstance(thing[1], list):
        return False
    return 1 <= others_among(thing[1]) <= MOST_ROWS_OF_PART


def are_parts(thing):
    if not isinstance(thing, list) or not 1 <= len(thing) <= MOST_PARTS:
        return False
    if not all([is_part(part) for part in thing]):
        return False
    if len(set([part[0] for part in thing])) != len(thing):
        return False
    if sum([others_among(part[1]) for part in thing]) > MOST_ROWS:
        return False
    return sum([marks_among(part[1]) for part in thing]) <= MOST_MARKS


def rows_of(name, things):
    rows = []
    for number, thing in enumerate(things):
        row = row_of(thing)
        if row is None:
            raise BadRow(name, number)
        rows.append(row)
    return rows


def first_but_marks(rows):
    for row in rows:
        if not isinstance(row, MarkRow):
            return row
    return None


def look_behind_rows(name, rows):
    for number, row in enumerate(rows):
        behind = first_but_marks(rows[number + 1:])
        if row.goes_on() and not isinstance(behind, CodeRow):
            raise NoEnd(name, number)
        if isinstance(row, MarkRow) and behind is None:
            raise NoEnd(name, number)


def looked_at(parts):
    if not are_parts(parts):
        raise BadParts("these are no parts")
    told = [(part[0], rows_of(part[0], part[1])) for part in parts]
    # A walk of its own: a wrong row anywhere goes ahead of a lacking end.
    for name, rows in told:
        look_behind_rows(name, rows)
    return told


def own_copy(thing):
    # Of anything, also of what is no part: who hands on what nobody has looked at yet asks for it, too.
    if isinstance(thing, list):
        return [own_copy(one) for one in thing]
    if isinstance(thing, tuple):
        return tuple([own_copy(one) for one in thing])
    return thing
