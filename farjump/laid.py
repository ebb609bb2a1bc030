"""Parts laid in cells, from a base on, and what is laid moved to another base."""

from farjump.cells import LAST_PLACE, cells_of, place_at, place_cells
from farjump.errors import BadBase, NoName, TooFar
from farjump.layout import is_short, least_right, look_at_base, starts_of
from farjump.names import at_place, let_by
from farjump.rows import AimRow, TableRow
from farjump.words import is_whole, is_word


class Image:
    def __init__(self, own_base, own_border, own_cells, names, begins, sizes, aims):
        self.own_base = own_base
        self.own_border = own_border
        self.own_cells = own_cells
        self.names = names
        self.begins = begins
        self.sizes = sizes
        self.aims = aims

    def cells(self):
        return list(self.own_cells)

    def base(self):
        return self.own_base

    def border(self):
        return self.own_border

    def place_of(self, name):
        # Asked ahead of the look into the dict: what is no text may be something that no dict can look for.
        if not is_word(name) or name not in self.names:
            raise NoName(name)
        return self.names[name]

    def part_places(self):
        return dict(self.begins)

    # Of each part its place and its cells, without the cells that fill up to the next border.
    def places_and_cells(self):
        told = {}
        for part, place in self.begins.items():
            first = place - self.own_base
            told[part] = (place, self.own_cells[first:first + self.sizes[part]])
        return told

    def moves(self):
        return list(self.aims)

    def moved(self, by):
        if not is_whole(by):
            raise BadBase("this is no whole number to move by")
        base = self.own_base + by
        look_at_base(self.own_border, base)
        look_at_end(base + len(self.own_cells))
        cells = self.cells()
        for aim in self.aims:
            above, below = place_cells(place_at(cells, aim - self.own_base) + by)
            cells[aim - self.own_base] = above
            cells[aim - self.own_base + 1] = below
        aims = [aim + by for aim in self.aims]
        names = all_moved(self.names, by)
        return Image(base, self.own_border, cells, names, all_moved(self.begins, by), self.sizes, aims)


def all_moved(places, by):
    return dict([(name, place + by) for name, place in places.items()])


def look_at_end(end):
    if end > LAST_PLACE + 1:
        raise TooFar("the end lies behind the last place")


def row_places(layout, begins):
    told = {}
    for part, lengths in layout.items():
        told[part] = []
        place = begins[part]
        for length in lengths:
            told[part].append(place)
            place += length
    return told


def nearness(row, length):
    return is_short(row, length) if isinstance(row, AimRow) else None


def aims_told(row, place, near):
    # Where two cells of the row tell a place; a short one tells a step, which stays as it is where all is moved.
    if near is True:
        return []
    first = place + 2 if isinstance(row, TableRow) else place + 1
    return [first + 2 * number for number in range(len(row.asked()))]


def laid(parts, base=0, border=1):
    bare, places = let_by(parts)
    look_at_base(border, base)
    layout = least_right(bare, places, border)
    begins = starts_of(bare, border, base, layout)
    sizes = dict([(part, sum(lengths)) for part, lengths in layout.items()])
    look_at_end(max([begins[part] + sizes[part] for part in bare]))
    own = row_places(layout, begins)
    names = dict([(name, at_place(own, place)) for name, place in places.items()])
    cells = []
    aims = []
    for part, rows in bare.items():
        cells.extend([0] * (begins[part] - base - len(cells)))
        for row, place, length in zip(rows, own[part], layout[part]):
            near = nearness(row, length)
            cells.extend(cells_of(row.by_places(names), place, near))
            aims.extend(aims_told(row, place, near))
    return Image(base, border, cells, names, begins, sizes, aims)
