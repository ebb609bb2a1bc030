"""Layouts told by anybody, looked through for whether they are right."""

from farjump.errors import NoLayout
from farjump.layout import far_rows, look_at_border
from farjump.names import let_by
from farjump.words import is_whole


def are_lengths(thing, rows):
    if not isinstance(thing, list) or len(thing) != len(rows):
        return False
    return all([is_whole(one) for one in thing])


def is_layout(thing, bare):
    if not isinstance(thing, dict) or len(thing) != len(bare):
        return False
    return all([part in thing and are_lengths(thing[part], rows) for part, rows in bare.items()])


def wrong_in(parts, border, layout):
    bare, places = let_by(parts)
    look_at_border(border)
    if not is_layout(layout, bare):
        raise NoLayout("this is no layout of these parts")
    far = far_rows(bare, places, layout, border)
    for part, rows in bare.items():
        for number, row in enumerate(rows):
            if layout[part][number] not in row.lengths() or (part, number) in far:
                return (part, number)
    return None
