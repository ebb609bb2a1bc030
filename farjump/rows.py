"""Rows: which tuples are rows, and what each row asks for, may take and does next."""

from farjump.words import is_whole, is_word

LAST_BOX = 3
LEAST_NUMBER = -2147483648
GREATEST_NUMBER = 2147483647
LONGEST_LIST = 60

# For each kind, what has to stand behind it.
FORMS = {
    "mark": ("word", "truth"),
    "set": ("box", "number"),
    "add": ("box", "box"),
    "take": ("box", "box"),
    "say": ("box",),
    "ask": ("box",),
    "jump": ("word",),
    "jumpif": ("box", "word"),
    "call": ("word",),
    "back": (),
    "stop": (),
    "load": ("box", "box", "word"),
    "jumpby": ("box", "word"),
    "alike": ("box", "word", "word"),
    "numbers": ("numbers",),
    "table": ("words",),
}


class Row:
    def __init__(self, told):
        # A list of the row is a tuple in here, so that it can't be changed from outside.
        self.told = told

    def words(self):
        return tuple([list(one) if isinstance(one, tuple) else one for one in self.told])

    def by_places(self, places):
        return self.words()

    def asked(self):
        return []

    def goes_on(self):
        return False


class MarkRow(Row):
    def lengths(self):
        return (0,)


class CodeRow(Row):
    def goes_on(self):
        return True

    def lengths(self):
        return (1,)


class DataRow(Row):
    def lengths_by(self, cells_for_one):
        return (2 + cells_for_one * len(self.told[1]),)


# add, take, say, ask
class BoxRow(CodeRow):
    pass


# back, stop
class LastRow(CodeRow):
    def goes_on(self):
        return False


class SetRow(CodeRow):
    def lengths(self):
        return (5,)


class AlikeRow(CodeRow):
    def by_places(self, places):
        kind, box, one, other = self.told
        return (kind, box, places[one], places[other])

    def asked(self):
        return list(self.told[2:])

    def lengths(self):
        return (5,)


# jumpif, call, load
class AimRow(CodeRow):
    def by_places(self, places):
        return self.told[:-1] + (places[self.told[-1]],)

    def asked(self):
        return [self.told[-1]]

    def lengths(self):
        return (2, 3)


# jump, jumpby
class LeaveRow(AimRow):
    def goes_on(self):
        return False


class NumbersRow(DataRow):
    def lengths(self):
        return self.lengths_by(4)


class TableRow(DataRow):
    def by_places(self, places):
        return (self.told[0], [places[name] for name in self.told[1]])

    def asked(self):
        return list(self.told[1])

    def lengths(self):
        return self.lengths_by(2)


def is_list_of(form, thing):
    if not isinstance(thing, list) or not 1 <= len(thing) <= LONGEST_LIST:
        return False
    return all([fits(form, one) for one in thing])


def fits(form, thing):
    if form == "word":
        return is_word(thing)
    if form == "box":
        return is_whole(thing) and 0 <= thing <= LAST_BOX
    if form == "number":
        return is_whole(thing) and LEAST_NUMBER <= thing <= GREATEST_NUMBER
    if form == "truth":
        return isinstance(thing, bool)
    if form == "numbers":
        return is_list_of("number", thing)
    return is_list_of("word", thing)


def is_row(thing):
    if not isinstance(thing, tuple) or len(thing) == 0:
        return False
    # Asked ahead of the look into the dict: what is no text may be something that no dict can look for.
    if not isinstance(thing[0], str) or thing[0] not in FORMS:
        return False
    forms = FORMS[thing[0]]
    if len(thing) != 1 + len(forms):
        return False
    return all([fits(form, one) for form, one in zip(forms, thing[1:])])


def code_row(told):
    kind = told[0]
    if kind == "set":
        return SetRow(told)
    if kind == "alike":
        return AlikeRow(told)
    if kind in ("back", "stop"):
        return LastRow(told)
    if kind in ("jump", "jumpby"):
        return LeaveRow(told)
    if kind in ("jumpif", "call", "load"):
        return AimRow(told)
    return BoxRow(told)


def row_of(thing):
    if not is_row(thing):
        return None
    told = tuple([tuple(one) if isinstance(one, list) else one for one in thing])
    if told[0] == "mark":
        return MarkRow(told)
    if told[0] == "numbers":
        return NumbersRow(told)
    if told[0] == "table":
        return TableRow(told)
    return code_row(told)


def asked_by(row):
    return row_of(row).asked()


def lengths(row):
    return row_of(row).lengths()
