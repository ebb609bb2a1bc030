"""Who stands for a name, and which parts are let by."""

from farjump.errors import Lacking, NoStart, Twice, WrongAim
from farjump.parts import looked_at
from farjump.rows import CodeRow, MarkRow, NumbersRow, TableRow
from farjump.words import is_word


def by_name(parts):
    return sorted(parts, key=lambda part: part[0])


def marks_of_part(part, rows):
    marks = []
    number = 0
    for row in rows:
        if isinstance(row, MarkRow):
            name, strong = row.words()[1:]
            marks.append((name, strong, (part, number)))
        else:
            number += 1
    return marks


def marks_in(told):
    # By the order of the parts' names, not of the list: so the first weak mark met is the one that stands.
    marks = []
    for part, rows in by_name(told):
        marks.extend(marks_of_part(part, rows))
    return marks


def strong_parts(marks):
    parts = {}
    for name, strong, place in marks:
        if strong:
            parts.setdefault(name, []).append(place[0])
    return parts


def look_for_twice(marks):
    parts = strong_parts(marks)
    for name in sorted(parts):
        if len(parts[name]) > 1:
            raise Twice(name, sorted(set(parts[name])))


def places_in(told):
    marks = marks_in(told)
    look_for_twice(marks)
    places = {}
    for name, strong, place in marks:
        if strong or name not in places:
            places[name] = place
    return places


def stands(parts):
    return places_in(looked_at(parts))


def without_marks(rows):
    return [row for row in rows if not isinstance(row, MarkRow)]


def bare_rows(told):
    return dict([(part, without_marks(rows)) for part, rows in by_name(told)])


def at_place(lists, place):
    return lists[place[0]][place[1]]


def may_aim_at(row, aim):
    kind = row.words()[0]
    if kind == "alike":
        return True
    if kind == "load":
        return isinstance(aim, NumbersRow)
    if kind == "jumpby":
        return isinstance(aim, TableRow)
    return isinstance(aim, CodeRow)


def look_at_aims(part, bare, places):
    for number, row in enumerate(bare[part]):
        for name in row.asked():
            if name not in places:
                raise Lacking(name, part, number)
            if not may_aim_at(row, at_place(bare, places[name])):
                raise WrongAim(name, part, number)


def let_by(parts):
    # Told for the other stages: the rows as objects, marks left out, by the parts' names, and the names' places.
    told = looked_at(parts)
    places = places_in(told)
    bare = bare_rows(told)
    # In the order of the list that was handed in: it says which refusal is the first.
    for part, rows in told:
        look_at_aims(part, bare, places)
    return (bare, places)


def bound(parts):
    bare, places = let_by(parts)
    return [(part, [row.words() for row in rows]) for part, rows in bare.items()]


def start_place(bare, places, start):
    # Asked ahead of the look into the dict: what is no text may be something that no dict can look for.
    if not is_word(start) or start not in places:
        raise NoStart(start)
    if not isinstance(at_place(bare, places[start]), CodeRow):
        raise NoStart(start)
    return places[start]
