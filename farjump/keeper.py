"""The keeper: parts put and dropped one by one, built together, and which of them a build touched."""

from farjump.errors import BadParts, NoName
from farjump.laid import laid
from farjump.layout import look_at_base
from farjump.parts import own_copy
from farjump.words import is_word


class Keeper:
    def __init__(self, base=0, border=1):
        look_at_base(border, base)
        self.own_base = base
        self.own_border = border
        self.parts = {}
        self.built = {}
        self.changed = []

    def put(self, part):
        if not isinstance(part, tuple) or len(part) != 2 or not is_word(part[0]):
            raise BadParts("this is no part: no name and its rows")
        # A name that is there keeps its place in the dict: so the order is the one in which they were put.
        self.parts[part[0]] = own_copy(part)

    def drop(self, name):
        # Asked ahead of the look into the dict: what is no text may be something that no dict can look for.
        if not is_word(name) or name not in self.parts:
            raise NoName(name)
        self.parts.pop(name)

    def all_parts(self):
        return own_copy(list(self.parts.values()))

    def build(self):
        image = laid(self.all_parts(), self.own_base, self.own_border)
        # From here on nothing is refused: a refused build leaves what the one ahead told.
        ahead = self.built
        self.built = image.places_and_cells()
        self.changed = sorted([part for part in self.built if self.built[part] != ahead.get(part)])
        return image

    def touched(self):
        return list(self.changed)
