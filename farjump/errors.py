"""The refusals: one class for each, all straight under PartError."""


class PartError(ValueError):
    pass


class BadParts(PartError):
    pass


class BadRow(PartError):
    def __init__(self, part, row):
        PartError.__init__(self, f"part {part}, row {row}: this is no row")
        self.part = part
        self.row = row


class NoEnd(PartError):
    def __init__(self, part, row):
        PartError.__init__(self, f"part {part}, row {row}: no row that it needs comes behind it")
        self.part = part
        self.row = row


class Twice(PartError):
    def __init__(self, name, parts):
        PartError.__init__(self, f"the name {name} has more than one strong mark, in {parts}")
        self.name = name
        self.parts = list(parts)


class Lacking(PartError):
    def __init__(self, name, part, row):
        PartError.__init__(self, f"part {part}, row {row}: no mark has the name {name}")
        self.name = name
        self.part = part
        self.row = row


class WrongAim(PartError):
    def __init__(self, name, part, row):
        PartError.__init__(self, f"part {part}, row {row}: the name {name} stands at a row of another kind")
        self.name = name
        self.part = part
        self.row = row


class NoStart(PartError):
    def __init__(self, name):
        PartError.__init__(self, f"the name {name!r} stands at no code row")
        self.name = name


class NoName(PartError):
    def __init__(self, name):
        PartError.__init__(self, f"there is no name {name!r}")
        self.name = name


class NoCells(PartError):
    def __init__(self, place):
        PartError.__init__(self, f"nothing can be read at the place {place}")
        self.place = place


class NoText(PartError):
    def __init__(self, line):
        PartError.__init__(self, f"line {line} may not stand there")
        self.line = line


class BadBase(PartError):
    pass


class TooFar(PartError):
    pass


class NoLayout(PartError):
    pass


class NoClasses(PartError):
    pass


class NoLine(PartError):
    pass
