"""Like parts folded into one: their classes, what parts two of a class, and the parts that are kept."""

from farjump.errors import NoClasses
from farjump.names import let_by
from farjump.rows import AlikeRow


def are_classes(thing, bare):
    if not isinstance(thing, list) or not all([isinstance(one, list) and len(one) > 0 for one in thing]):
        return False
    # As many names as parts, and each part in one list: so no other name is there, and none twice.
    if sum([len(one) for one in thing]) != len(bare):
        return False
    if not all([len([one for one in thing if part in one]) == 1 for part in bare]):
        return False
    return thing == sorted([sorted(one) for one in thing])


def look_at_classes(some, bare):
    if not are_classes(some, bare):
        raise NoClasses("these are no classes of these parts")


def parts_alone(bare, places):
    alone = {}
    for rows in bare.values():
        for row in rows:
            if isinstance(row, AlikeRow):
                for name in row.asked():
                    alone[places[name][0]] = True
    return alone


def folded_places(places, some):
    first = {}
    for one in some:
        for part in one:
            first[part] = one[0]
    return dict([(name, (first[place[0]], place[1])) for name, place in places.items()])


def looks(bare, places, some):
    # Two parts are alike where they look the same: the names are told by where they stand once all is folded.
    alone = parts_alone(bare, places)
    by_class = folded_places(places, some)
    told = {}
    for part, rows in bare.items():
        # Its own name lets a part that has to be alone look like no other one.
        told[part] = (part if part in alone else None, [row.by_places(by_class) for row in rows])
    return told


def split_class(one, look):
    told = []
    for part in one:
        like = [group for group in told if look[group[0]] == look[part]]
        if len(like) == 0:
            told.append([part])
        else:
            like[0].append(part)
    return told


def all_split(bare, places, some):
    look = looks(bare, places, some)
    told = []
    for one in some:
        told.extend(split_class(one, look))
    return told


def classes(parts):
    bare, places = let_by(parts)
    # From one class of all parts on, only what has to be parted is parted: so the classes are the coarsest.
    some = [list(bare)]
    parted = all_split(bare, places, some)
    while len(parted) > len(some):
        some = parted
        parted = all_split(bare, places, some)
    return sorted(some)


def first_two(bare, places, some):
    look = looks(bare, places, some)
    two = []
    for one in some:
        for part in one:
            two.extend([(part, other) for other in one if part < other and look[part] != look[other]])
    return min(two, default=None)


def parts_two(parts, some):
    bare, places = let_by(parts)
    look_at_classes(some, bare)
    return first_two(bare, places, some)


def marked(part, rows, names):
    told = []
    for number, row in enumerate(rows):
        told.extend([("mark", name, True) for name in names.get((part, number), [])])
        told.append(row.words())
    return told


def folded(parts, some):
    bare, places = let_by(parts)
    look_at_classes(some, bare)
    if first_two(bare, places, some) is not None:
        raise NoClasses("parts of one class are not alike")
    names = {}
    by_class = folded_places(places, some)
    for name in sorted(by_class):
        names.setdefault(by_class[name], []).append(name)
    return [(one[0], marked(one[0], bare[one[0]], names)) for one in some]
