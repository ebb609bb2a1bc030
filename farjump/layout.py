"""Layouts: how many cells each row takes, the least right one, and where the parts start."""

from farjump.errors import BadBase
from farjump.names import at_place, let_by
from farjump.words import is_whole

GREATEST_BORDER = 64
FARTHEST_AHEAD = 127
FARTHEST_BACK = 128


def look_at_border(border):
    if not is_whole(border) or not 1 <= border <= GREATEST_BORDER:
        raise BadBase("the border is none from 1 to 64")


def look_at_base(border, base):
    look_at_border(border)
    if not is_whole(base) or base < 0 or base % border != 0:
        raise BadBase("the base is below 0 or no multiple of the border")


def shortest(bare):
    return dict([(part, [row.lengths()[0] for row in rows]) for part, rows in bare.items()])


def stretched(layout, border):
    ahead = {}
    place = 0
    for part in sorted(layout):
        ahead[part] = []
        for length in layout[part]:
            ahead[part].append(place)
            place += length
        place += border - 1
    return ahead


def is_near(own, length, aim):
    if aim > own:
        return aim - own - length <= FARTHEST_AHEAD
    # Back it is looked at as a short row, whatever its length: it is counted as 2 cells.
    return own + 2 - aim <= FARTHEST_BACK


def is_short(row, length):
    return len(row.lengths()) > 1 and length == row.lengths()[0]


def far_rows(bare, places, layout, border):
    ahead = stretched(layout, border)
    far = []
    for part, rows in bare.items():
        for number, row in enumerate(rows):
            length = layout[part][number]
            if is_short(row, length):
                aim = at_place(ahead, places[row.asked()[0]])
                if not is_near(ahead[part][number], length, aim):
                    far.append((part, number))
    return far


def least_right(bare, places, border):
    layout = shortest(bare)
    far = far_rows(bare, places, layout, border)
    while len(far) > 0:
        for part, number in far:
            layout[part][number] = bare[part][number].lengths()[1]
        far = far_rows(bare, places, layout, border)
    return layout


def least_layout(parts, border):
    bare, places = let_by(parts)
    look_at_border(border)
    return least_right(bare, places, border)


def starts_of(bare, border, base, layout):
    told = {}
    end = base
    for part in bare:
        # Rounded up to a multiple of the border; the base is one already.
        told[part] = (end + border - 1) // border * border
        end = told[part] + sum(layout[part])
    return told


def starts(parts, border, base, layout):
    bare, places = let_by(parts)
    look_at_base(border, base)
    return starts_of(bare, border, base, layout)
