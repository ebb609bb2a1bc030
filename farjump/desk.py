"""The desk: rows told one at a time, each answered by a text."""

from farjump.closed import needed
from farjump.errors import NoLine
from farjump.folding import classes, folded
from farjump.keeper import Keeper
from farjump.laid import laid
from farjump.machine import PlacedCells, run_cells
from farjump.names import by_name, let_by, start_place
from farjump.runner import run_names
from farjump.texts import joined_by_blanks, read_number, read_parts, show_parts, show_row
from farjump.words import is_word

MOST_STEPS = 500

# For each kind of row, what has to stand behind it, and what may stand behind that, as often as one likes.
LINES = {
    "put": ((), None),
    "drop": (("name",), None),
    "lay": (("number", "number"), None),
    "parts": ((), None),
    "keep": (("name",), "name"),
    "fold": ((), None),
    "run": (("name", "steps"), "number"),
    "go": (("name", "steps"), "number"),
    "cells": ((), None),
    "place": (("name",), None),
    "moves": ((), None),
    "build": ((), None),
    "read": (("number",), None),
    "needed": (("name",), None),
    "classes": ((), None),
}


def forms_for(kind, count):
    forms, more = LINES[kind]
    if more is None:
        return forms
    return forms + (more,) * (count - len(forms))


# None where the word is none of this form.
def read_as(form, word):
    if form == "name":
        return word if is_word(word) else None
    number = read_number(word)
    if form == "steps" and number is not None and not 0 <= number <= MOST_STEPS:
        return None
    return number


def read_line(row):
    if not isinstance(row, str):
        raise NoLine("a row is a text")
    line, feed, text = row.partition("\n")
    words = line.split(" ")
    kind = words[0]
    if kind not in LINES or (feed == "\n") != (kind == "put"):
        raise NoLine("there is no such row, or it lacks its text or takes none")
    forms = forms_for(kind, len(words) - 1)
    if len(forms) != len(words) - 1:
        raise NoLine("too few words, or too many")
    told = [read_as(form, word) for form, word in zip(forms, words[1:])]
    if None in told:
        raise NoLine("a number or a name is none")
    return (kind, told, text)


class Desk:
    def __init__(self):
        self.own_base = 0
        self.own_border = 1
        self.keeper = Keeper()

    def say(self, row):
        kind, told, text = read_line(row)
        if kind in ("put", "drop", "lay", "keep", "fold"):
            self.change(kind, told, text)
            return "ok"
        if kind in ("run", "go"):
            return self.say_run(kind, told[0], told[1], told[2:])
        if kind in ("cells", "place", "moves", "read"):
            return self.say_laid(kind, told)
        if kind == "build":
            self.keeper.build()
            return joined_by_blanks(self.keeper.touched())
        parts = self.sorted_parts()
        if kind == "parts":
            return show_parts(parts)
        if kind == "needed":
            return joined_by_blanks(needed(parts, told[0]))
        return "; ".join([joined_by_blanks(one) for one in classes(parts)])

    def sorted_parts(self):
        return by_name(self.keeper.all_parts())

    def lay_parts(self):
        return laid(self.sorted_parts(), self.own_base, self.own_border)

    def change(self, kind, told, text):
        if kind == "put":
            self.put_all(read_parts(text))
        elif kind == "drop":
            self.keeper.drop(told[0])
        elif kind == "lay":
            self.change_base(told[0], told[1])
        elif kind == "keep":
            self.drop_all_but(told)
        else:
            parts = self.sorted_parts()
            kept = folded(parts, classes(parts))
            self.drop_all_but([])
            self.put_all(kept)

    def put_all(self, parts):
        for part in parts:
            self.keeper.put(part)

    def drop_all_but(self, names):
        for part in self.keeper.all_parts():
            if part[0] not in names:
                self.keeper.drop(part[0])

    def change_base(self, base, border):
        parts = self.sorted_parts()
        # Made ahead of any change: a base that is refused changes nothing.
        self.keeper = Keeper(base, border)
        self.own_base = base
        self.own_border = border
        self.put_all(parts)

    def say_run(self, kind, start, steps, inputs):
        parts = self.sorted_parts()
        if kind == "run":
            answers, end = run_names(parts, start, inputs, steps)
        else:
            # Only looked at: a start that is none is refused ahead of what is laid too far.
            bare, places = let_by(parts)
            start_place(bare, places, start)
            image = self.lay_parts()
            answers, end = run_cells(image.cells(), image.base(), image.place_of(start), inputs, steps)
        return joined_by_blanks(answers + [end])

    def say_laid(self, kind, told):
        image = self.lay_parts()
        if kind == "cells":
            return joined_by_blanks(image.cells())
        if kind == "place":
            return str(image.place_of(told[0]))
        if kind == "moves":
            return joined_by_blanks(image.moves())
        return show_row(PlacedCells(image.cells(), image.base()).code_at(told[0])[0])
