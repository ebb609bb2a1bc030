"""What nobody comes to: the parts that a start needs, and what leads out of some of them."""

from farjump.names import let_by, start_place
from farjump.parts import own_copy


def names_asked(rows):
    names = []
    for row in rows:
        names.extend(row.asked())
    return names


def needed(parts, start):
    bare, places = let_by(parts)
    found = [start_place(bare, places, start)[0]]
    seen = 0
    while seen < len(found):
        part = found[seen]
        for name in names_asked(bare[part]):
            home = places[name][0]
            if home not in found:
                found.append(home)
        seen += 1
    return sorted(found)


def leads_out(parts, start, some):
    bare, places = let_by(parts)
    if start_place(bare, places, start)[0] not in some:
        return (None, start)
    for part, rows in bare.items():
        if part in some:
            for name in names_asked(rows):
                if places[name][0] not in some:
                    return (part, name)
    return None


def only(parts, some):
    return [own_copy(part) for part in parts if part[0] in some]
