"""Promises 48 and 49, with the rows of the interface, and of promise 2 that two desks know nothing of one another."""

import random
import unittest

from farjump.closed import needed
from farjump.desk import Desk
from farjump.errors import (BadBase, BadParts, Lacking, NoCells, NoEnd, NoLine, NoName, NoStart, NoText, PartError, TooFar,
                            Twice, WrongAim)
from farjump.folding import classes, folded
from farjump.keeper import Keeper
from farjump.laid import laid
from farjump.machine import run_cells
from farjump.runner import run_names
from farjump.texts import read_parts, show_parts, show_row
from tests.helper import HUGE, STOP, Refusals, code_names, filled, lively_parts, mark

MAIN = "part main\nstart::\nask 0\ncall double\nsay 0\njump start"
LIB = "part lib\ndouble::\nadd 0 0\nback"
OLD = "part old\ntwice::\nadd 0 0\nback"
DATA = "part data\nfees::\nnumbers 3 -1 0\nwords::\ntable start double"

# Each row that asks of parts, right as it stands.
ASKING = ["fold", "run start 5", "go start 5 1", "cells", "place start", "moves", "build", "read 0", "needed start", "classes"]
LAYING = ["go start 5 1", "cells", "place start", "moves", "build", "read 0"]
STARTING = ["run", "go", "needed"]

NO_WORDS = ["A", "a1", "abcdefghi", "1", "-1", "a-b", "a:", "", "Start", "~"]
NO_NUMBERS = ["a", "-", "--1", "01", "00", "-0", "-01", "+1", "1.0", "1e3", "0x1", "1_0", "1" + "0" * 60, "-1" + "0" * 60, "1" * 5000, ""]


class Says(Refusals):
    def says(self, desk, row, answer):
        told = desk.say(row)
        self.assertEqual(told, answer)
        self.assertIs(type(told), str)

    def desk(self, *texts, base=0, border=1):
        desk = Desk()
        for text in texts:
            self.says(desk, "put\n" + text, "ok")
        if (base, border) != (0, 1):
            self.says(desk, f"lay {base} {border}", "ok")
        return desk

    def desk_with(self, parts, base=0, border=1):
        return self.desk(show_parts(parts), base=base, border=border)

    def no_line(self, desk, row):
        self.assertEqual(self.refused(NoLine, desk.say, (row,)), {})


class Puts(Says):
    def test_one_part_and_several(self):
        desk = self.desk(MAIN)
        self.says(desk, "parts", MAIN)
        self.says(desk, "put\n" + OLD + "\n" + LIB, "ok")
        self.says(desk, "parts", "\n".join([LIB, MAIN, OLD]))

    def test_a_part_put_again(self):
        desk = self.desk(MAIN, LIB)
        self.says(desk, "put\npart lib\nstop", "ok")
        self.says(desk, "parts", "part lib\nstop\n" + MAIN)

    def test_one_name_twice_in_a_text(self):
        desk = self.desk("part a\nstop\npart b\nstop\npart a\nback")
        self.says(desk, "parts", "part a\nback\npart b\nstop")

    def test_parts_need_not_be_let_by(self):
        text = "part a\nx::\nx::\njump gone\npart b\nsay 0\npart c\nx::"
        self.says(self.desk(text), "parts", text)
        text = "\n".join(f"part {name}\nstop" for name in "abcdefghijklmnop")
        self.says(self.desk(text), "parts", text)
        text = "part a" + "\nstop" * 61
        self.says(self.desk(text), "parts", text)

    def test_texts_that_are_none(self):
        for text, line in (("", 0), ("\n", 0), ("part a", 1), ("stop", 0), ("part a\nstop\n", 2), ("part a\nstop\npart b", 3), ("part a\nhalt", 1),
                           ("part a\npart b\nstop", 1), ("part a\nstop\n\npart b\nstop", 2), ("part a\nstop\npart b\nset 0 05", 3)):
            desk = self.desk("part a\nback")
            self.assertEqual(self.refused(NoText, desk.say, ("put\n" + text,)), {"line": line})
            self.says(desk, "parts", "part a\nback")

    def test_a_text_that_is_none_is_refused_whatever_is_kept(self):
        for desk in (Desk(), self.desk("part a\njump gone"), self.desk("part a\nx::\nx::\nstop")):
            self.assertEqual(self.refused(NoText, desk.say, ("put\npart b\n",)), {"line": 1})


class Drops(Says):
    def test_drop(self):
        desk = self.desk(MAIN, LIB, OLD)
        self.says(desk, "drop main", "ok")
        self.says(desk, "parts", LIB + "\n" + OLD)
        self.says(desk, "drop old", "ok")
        self.says(desk, "drop lib", "ok")
        self.says(desk, "parts", "")

    def test_names_that_are_not_there(self):
        desk = self.desk(MAIN, LIB)
        for name in ("old", "start", "double", "mainn"):
            self.assertEqual(self.refused(NoName, desk.say, ("drop " + name,)), {"name": name})
        self.says(desk, "drop lib", "ok")
        self.assertEqual(self.refused(NoName, desk.say, ("drop lib",)), {"name": "lib"})
        self.assertEqual(self.refused(NoName, Desk().say, ("drop lib",)), {"name": "lib"})
        self.says(desk, "parts", MAIN)

    def test_keep(self):
        desk = self.desk(MAIN, LIB, OLD, DATA)
        self.says(desk, "keep old main lib", "ok")
        self.says(desk, "parts", "\n".join([LIB, MAIN, OLD]))
        self.says(desk, "keep lib", "ok")
        self.says(desk, "parts", LIB)

    def test_keep_names_that_are_not_there_or_stand_twice(self):
        desk = self.desk(MAIN, LIB, OLD)
        self.says(desk, "keep lib gone lib main start", "ok")
        self.says(desk, "parts", LIB + "\n" + MAIN)
        self.says(desk, "keep gone", "ok")
        self.says(desk, "parts", "")
        self.says(desk, "keep gone lib", "ok")
        self.says(Desk(), "keep a", "ok")

    def test_keep_refuses_nothing_for_the_parts(self):
        desk = self.desk("part a\njump gone\npart b\nx::\nx::\nstop")
        self.says(desk, "keep a", "ok")
        self.says(desk, "parts", "part a\njump gone")


class Parts(Says):
    def test_none(self):
        self.says(Desk(), "parts", "")

    def test_in_the_order_of_their_names(self):
        self.says(self.desk("part c\nstop\npart ab\nback", "part a\nstop", "part b\nsay 3\nstop"), "parts",
                  "part a\nstop\npart ab\nback\npart b\nsay 3\nstop\npart c\nstop")

    def test_each_kind_of_row(self):
        text = ("part a\nstart::\nw:\nset 0 -5\nadd 0 1\ntake 2 3\nsay 0\nask 1\njumpif 3 start\ncall start\nload 1 0 fees\nalike 2 start w\n"
                "jumpby 0 words\njump start\nback\nstop\nfees::\nnumbers 3 -1 0\nwords::\ntable start w")
        self.says(self.desk(text), "parts", text)


class Fold(Says):
    def test_like_parts(self):
        desk = self.desk(OLD, MAIN, LIB)
        self.says(desk, "classes", "lib old; main")
        self.says(desk, "fold", "ok")
        self.says(desk, "parts", "part lib\ndouble::\ntwice::\nadd 0 0\nback\n" + MAIN)
        self.says(desk, "classes", "lib; main")
        self.says(desk, "run start 500 4 5", "8 10 ask")

    def test_weak_marks(self):
        desk = self.desk("part a\nx:\ny:\nstop\nx::\nback", "part b\nz:\nstop\nback")
        self.says(desk, "fold", "ok")
        self.says(desk, "parts", "part a\ny::\nz::\nstop\nx::\nback")

    def test_nothing_alike(self):
        desk = self.desk(MAIN, LIB)
        self.says(desk, "fold", "ok")
        self.says(desk, "parts", LIB + "\n" + MAIN)

    def test_classes(self):
        self.says(self.desk(MAIN, LIB), "classes", "lib; main")
        self.says(self.desk("part a\nstop"), "classes", "a")
        self.says(self.desk("part c\nstop\npart a\nstop\npart b\nback\npart d\nback\npart e\nsay 0\nstop"), "classes", "a c; b d; e")


class Needs(Says):
    def test_needed(self):
        desk = self.desk(OLD, MAIN, LIB, DATA)
        self.says(desk, "needed start", "lib main")
        self.says(desk, "needed double", "lib")
        self.says(desk, "needed twice", "old")


class Runs(Says):
    def both(self, desk, tail, answer):
        self.says(desk, "run " + tail, answer)
        self.says(desk, "go " + tail, answer)

    def test_answers_and_end(self):
        for base, border in ((0, 1), (8, 4), (65472, 64), (640, 64)):
            desk = self.desk(MAIN, LIB, OLD, base=base, border=1 if base > 60000 else border)
            self.both(desk, "start 500", "ask")
            self.both(desk, "start 500 4", "8 ask")
            self.both(desk, "start 500 4 -5 0", "8 -10 0 ask")
            self.both(desk, "double 500", "empty")
            self.both(desk, "start 0", "steps")
            self.both(desk, "start 0 4", "steps")
            self.both(desk, "start 4 4", "steps")
            self.both(desk, "start 5 4", "8 steps")

    def test_each_end(self):
        desk = self.desk("part a\ns::\nstop\ne::\nback\nd::\ncall d\nstop\nk::\nask 0\nsay 0\nstop\np::\nask 0\nload 1 0 n\nsay 1\nstop\n"
                         "j::\nask 0\njumpby 0 t\nr::\njump r\nn::\nnumbers 7 -8\nt::\ntable s e")
        self.both(desk, "s 1", "stop")
        self.both(desk, "e 500", "empty")
        self.both(desk, "d 500", "deep")
        self.both(desk, "d 41", "deep")
        self.both(desk, "d 40", "steps")
        self.both(desk, "k 500", "ask")
        self.both(desk, "k 500 0", "0 stop")
        self.both(desk, "p 500 1", "-8 stop")
        self.both(desk, "p 500 2", "place")
        self.both(desk, "p 500 -1", "place")
        self.both(desk, "j 500 0", "stop")
        self.both(desk, "j 500 1", "empty")
        self.both(desk, "j 500 2", "place")
        self.both(desk, "r 500", "steps")

    def test_numbers_of_sixty_figures(self):
        desk = self.desk(MAIN, LIB)
        self.both(desk, f"start 500 {HUGE} -{HUGE} 1{'0' * 59}", f"{2 * HUGE} {-2 * HUGE} 2{'0' * 59} ask")

    def test_many_inputs(self):
        desk = self.desk("part a\ns::\nask 0\nsay 0\njump s")
        self.both(desk, "s 500 " + " ".join(str(n) for n in range(-50, 50)), " ".join(str(n) for n in range(-50, 50)) + " ask")

    def test_bounds(self):
        desk = self.desk("part a\ns::\nsay 0\njump s")
        for steps in (0, 1, 2, 499, 500):
            self.both(desk, f"s {steps}", "0 " * ((steps + 1) // 2) + "steps")
        for steps in ("501", "1000", "-1", "-500", "500000", str(HUGE), str(-HUGE), "0500", "-0"):
            self.no_line(desk, "run s " + steps)
            self.no_line(desk, "go s " + steps)
            self.no_line(desk, f"run s {steps} 4")
            self.no_line(desk, f"go gone {steps} 4")

    def test_no_start(self):
        for desk in (self.desk(MAIN, LIB, DATA), self.desk(MAIN, LIB, DATA, base=65535), self.desk(MAIN, LIB, DATA, base=10 ** 59)):
            for name in ("gone", "main", "lib", "fees", "words"):
                for row in (f"run {name} 5", f"go {name} 5", f"needed {name}", f"run {name} 0 1 2", f"go {name} 0 1 2"):
                    self.assertEqual(self.refused(NoStart, desk.say, (row,)), {"name": name})

    def test_a_run_lays_nothing_down(self):
        desk = self.desk(MAIN, LIB, base=65535)
        self.says(desk, "run start 500 4", "8 ask")
        self.says(desk, "needed start", "lib main")
        self.says(desk, "classes", "lib; main")
        self.assertEqual(self.refused(TooFar, desk.say, ("go start 500 4",)), {})

    def test_by_chance(self):
        chance = random.Random(48)
        for turn in range(40):
            parts = lively_parts(chance, 3)
            border = chance.choice([1, 3, 64])
            desk = self.desk_with(parts, border * chance.choice([0, 5]), border)
            for name in code_names(parts):
                inputs = [chance.randint(-1, 4) for number in range(chance.randint(0, 6))]
                steps = chance.choice([500, 500, 17])
                answers, end = run_names(parts, name, inputs, steps)
                self.both(desk, " ".join(str(one) for one in [name, steps] + inputs), " ".join(str(one) for one in answers + [end]))


class Lays(Says):
    def test_cells_places_and_moves(self):
        desk = self.desk(MAIN, OLD, LIB)
        self.says(desk, "cells", "32 98 68 82 251 64 80 250 32 98")
        self.says(desk, "place start", "2")
        self.says(desk, "place double", "0")
        self.says(desk, "place twice", "8")
        self.says(desk, "moves", "")
        self.says(desk, "lay 8 4", "ok")
        self.says(desk, "cells", "32 98 0 0 68 82 249 64 80 250 0 0 32 98")
        self.says(desk, "place start", "12")
        self.says(desk, "place twice", "20")
        self.says(desk, "moves", "")

    def test_moves(self):
        desk = self.desk(MAIN, LIB, DATA, base=300)
        self.says(desk, "cells", "0 3 0 0 0 3 255 255 255 255 0 0 0 0 0 2 1 66 1 64 32 98 68 82 251 64 80 250")
        self.says(desk, "moves", "316 318")
        self.says(desk, "place words", "314")
        self.says(desk, "place fees", "300")

    def test_names_that_are_none(self):
        desk = self.desk(MAIN, LIB)
        for name in ("gone", "main", "lib", "twice"):
            self.assertEqual(self.refused(NoName, desk.say, ("place " + name,)), {"name": name})

    def test_a_name_that_is_none_behind_too_far(self):
        desk = self.desk(MAIN, LIB, base=65535)
        self.assertEqual(self.refused(TooFar, desk.say, ("place gone",)), {})

    def test_bases_that_are_none(self):
        desk = self.desk(MAIN, LIB, base=8, border=4)
        before = desk.say("cells")
        for tail in ("0 0", "0 65", "0 -1", "-1 1", "1 2", "-4 4", "4 8", f"{HUGE} 2", f"0 {HUGE}", f"-{HUGE} 1", "0 -64"):
            self.assertEqual(self.refused(BadBase, desk.say, ("lay " + tail,)), {})
            self.assertEqual(self.refused(BadBase, Desk().say, ("lay " + tail,)), {})
            self.says(desk, "cells", before)
            self.says(desk, "place start", "12")

    def test_bases(self):
        desk = self.desk(MAIN, LIB)
        for base, border in ((0, 1), (7, 1), (64, 64), (640, 64), (9, 3), (65526, 1), (0, 64)):
            self.says(desk, f"lay {base} {border}", "ok")
            image = laid(read_parts(LIB + "\n" + MAIN), base, border)
            self.says(desk, "cells", " ".join(str(cell) for cell in image.cells()))
            self.says(desk, "place start", str(image.place_of("start")))

    def test_lay_ahead_of_any_part(self):
        desk = Desk()
        self.says(desk, "lay 8 4", "ok")
        self.says(desk, "put\n" + MAIN + "\n" + LIB, "ok")
        self.says(desk, "place start", "12")

    def test_lay_refuses_nothing_for_the_parts(self):
        desk = self.desk("part a\njump gone")
        self.says(desk, "lay 5 1", "ok")
        self.says(desk, "put\npart b\ngone::\nstop", "ok")
        self.says(desk, "place gone", "7")

    def test_too_far(self):
        for desk in (self.desk(MAIN, LIB, base=65535), self.desk(MAIN, LIB, base=65529), self.desk(MAIN, LIB, base=10 ** 59)):
            for row in LAYING:
                self.assertEqual(self.refused(TooFar, desk.say, (row,)), {}, row)
        desk = self.desk(MAIN, LIB, base=65528)
        self.says(desk, "place start", "65530")
        self.says(desk, "go start 500 7", "14 ask")

    def test_read(self):
        for base in (0, 8, 300, 65500):
            desk = self.desk(MAIN, LIB, base=base)
            for number, text in ((0, "add 0 0"), (1, "back"), (2, "ask 0"), (3, f"call {base}"), (5, "say 0"), (6, f"jump {base + 2}")):
                self.says(desk, f"read {base + number}", text)
            for place in (base - 1, base + 4, base + 7, base + 8, base + 9, -1, -5, HUGE, -HUGE):
                self.assertEqual(self.refused(NoCells, desk.say, (f"read {place}",)), {"place": place})

    def test_read_each_kind_of_row(self):
        rows = [mark("x"), ("set", 1, -7), ("add", 1, 2), ("take", 3, 0), ("say", 2), ("ask", 3), ("jumpif", 2, "x"), ("call", "y"), ("load", 1, 2, "n"),
                ("alike", 3, "x", "n"), ("jumpby", 2, "t"), ("jump", "x"), ("back",), mark("y"), STOP]
        data = [mark("n"), ("numbers", [1, 2]), mark("t"), ("table", ["x", "y"])]
        for between in ([], filled(130)):
            for base in (0, 1000):
                parts = [("a", rows + between + data)]
                desk = self.desk_with(parts, base)
                image, place = laid(parts, base), base
                for row in [row for row in rows if row[0] != "mark"]:
                    right = tuple(image.place_of(one) if isinstance(one, str) else one for one in row[1:])
                    self.says(desk, f"read {place}", show_row(row[:1] + right))
                    place += 5 if row[0] in ("set", "alike") else 1 if row[0] in ("add", "take", "say", "ask", "back", "stop") else (
                        3 if between and row[0] in ("load", "jumpby") else 2)

    def test_read_what_is_no_row_of_code(self):
        desk = self.desk("part a\nnumbers 1\nstop", base=10)
        for place in range(10, 16):
            self.assertEqual(self.refused(NoCells, desk.say, (f"read {place}",)), {"place": place})
        self.says(desk, "read 16", "stop")
        # A short aim ahead of the first cell, and too few cells behind.
        desk = self.desk(f"part a\nstop\nnumbers {80 * 2 ** 24 + 128 * 2 ** 16} 17", base=1000)
        self.assertEqual(self.refused(NoCells, desk.say, ("read 1003",)), {"place": 1003})
        self.assertEqual(self.refused(NoCells, desk.say, ("read 1010",)), {"place": 1010})

    def test_what_is_laid_is_laid_anew(self):
        desk = self.desk(LIB, MAIN)
        self.says(desk, "place start", "2")
        self.says(desk, "put\npart a\nstop", "ok")
        self.says(desk, "place start", "3")
        self.says(desk, "drop a", "ok")
        self.says(desk, "place start", "2")


class Builds(Says):
    def test_behind_put_and_drop(self):
        desk = self.desk(MAIN, LIB, OLD)
        self.says(desk, "build", "lib main old")
        self.says(desk, "build", "")
        self.says(desk, "put\n" + LIB, "ok")
        self.says(desk, "build", "")
        self.says(desk, "put\npart lib\ndouble::\nadd 0 0\nsay 1\nback", "ok")
        self.says(desk, "build", "lib main old")
        self.says(desk, "put\npart old\nstop", "ok")
        self.says(desk, "build", "old")
        self.says(desk, "drop old", "ok")
        self.says(desk, "build", "")
        self.says(desk, "put\npart a\nstop", "ok")
        self.says(desk, "build", "a lib main")

    def test_behind_keep(self):
        desk = self.desk(MAIN, LIB, OLD, "part a\nstop")
        self.says(desk, "build", "a lib main old")
        self.says(desk, "keep lib main a", "ok")
        self.says(desk, "build", "")
        self.says(desk, "keep lib main", "ok")
        self.says(desk, "build", "lib main")

    def test_behind_lay_nothing_is_built(self):
        desk = self.desk(MAIN, LIB)
        self.says(desk, "build", "lib main")
        self.says(desk, "lay 0 1", "ok")
        self.says(desk, "build", "lib main")
        self.says(desk, "build", "")
        self.says(desk, "lay 64 64", "ok")
        self.says(desk, "build", "lib main")
        self.says(desk, "put\npart lib\ndouble::\nadd 0 0\nadd 0 0\nback", "ok")
        self.says(desk, "build", "lib")

    def test_behind_fold(self):
        desk = self.desk(MAIN, LIB, OLD, "part zoo\nq::\nstop")
        self.says(desk, "build", "lib main old zoo")
        self.says(desk, "fold", "ok")
        self.says(desk, "build", "zoo")
        self.says(desk, "fold", "ok")
        self.says(desk, "build", "")

    def test_fold_drops_parts_that_others_aimed_at(self):
        desk = self.desk(MAIN, "part a\nstop", "part b\ntwice::\nadd 0 0\nback", LIB)
        self.says(desk, "build", "a b lib main")
        self.says(desk, "fold", "ok")
        self.says(desk, "parts", "part a\nstop\npart b\ndouble::\ntwice::\nadd 0 0\nback\n" + MAIN)
        self.says(desk, "build", "main")

    def order(self, desk, names):
        """By which refusal comes first, the parts that lack a name being dropped one by one."""
        for name in names:
            self.assertEqual(self.refused(Lacking, desk.say, ("build",)), {"name": "no" + name, "part": name, "row": 0})
            self.says(desk, "drop " + name, "ok")
        self.assertEqual(self.refused(BadParts, desk.say, ("build",)), {})

    def lacking(self, names):
        return self.desk(*[f"part {name}\njump no{name}" for name in names])

    def test_the_order_in_which_they_were_put(self):
        self.order(self.lacking("cabd"), "cabd")
        self.order(self.desk("part c\njump noc\npart a\njump noa\npart b\njump nob"), "cab")
        desk = self.lacking("cabd")
        self.says(desk, "put\npart a\ncall noa\nstop", "ok")
        self.order(desk, "cabd")
        desk = self.lacking("cabd")
        self.says(desk, "drop a", "ok")
        self.says(desk, "put\npart a\ncall noa\nstop", "ok")
        self.order(desk, "cbda")
        desk = self.lacking("dcab")
        self.says(desk, "keep a b d", "ok")
        self.order(desk, "dab")

    def test_behind_lay_by_their_names(self):
        desk = self.lacking("cabd")
        self.says(desk, "lay 0 1", "ok")
        self.order(desk, "abcd")
        desk = self.lacking("cd")
        self.says(desk, "lay 8 2", "ok")
        self.says(desk, "put\npart b\njump nob\npart a\njump noa", "ok")
        self.order(desk, "cdba")

    def test_behind_fold_by_their_names(self):
        desk = self.desk(*[f"part {name}\nm{name}::\nstop\nset 0 {number}\nstop" for number, name in enumerate("cabd")])
        self.says(desk, "fold", "ok")
        self.says(desk, "put\n" + "\n".join(f"part {name}\njump no{name}" for name in "dcba"), "ok")
        self.order(desk, "abcd")

    def test_a_refused_lay_keeps_the_order_and_what_was_built(self):
        desk = self.lacking("cabd")
        self.assertEqual(self.refused(BadBase, desk.say, ("lay 1 2",)), {})
        self.order(desk, "cabd")
        desk = self.desk(MAIN, LIB)
        desk.say("build")
        self.assertEqual(self.refused(BadBase, desk.say, ("lay 1 2",)), {})
        self.says(desk, "build", "")

    def test_all_others_ask_in_the_order_of_the_names(self):
        for row in ASKING:
            if row != "build":
                desk = self.lacking("cabd")
                for name in "abcd":
                    self.assertEqual(self.refused(Lacking, desk.say, (row,)), {"name": "no" + name, "part": name, "row": 0}, row)
                    self.says(desk, "drop " + name, "ok")

    def test_a_refused_build_leaves_what_was_built(self):
        desk = self.desk(MAIN, LIB)
        self.says(desk, "build", "lib main")
        self.says(desk, "put\npart old\njump gone", "ok")
        self.assertEqual(self.refused(Lacking, desk.say, ("build",)), {"name": "gone", "part": "old", "row": 0})
        self.says(desk, "put\npart old\nstop", "ok")
        self.says(desk, "build", "old")

    def test_other_rows_build_nothing(self):
        desk = self.desk(MAIN, LIB)
        self.says(desk, "build", "lib main")
        self.says(desk, "put\npart a\nstop", "ok")
        for row in ("cells", "moves", "place start", "run start 5 1", "go start 5 1", "read 0", "needed start", "classes", "parts"):
            desk.say(row)
        self.says(desk, "build", "a lib main")


class Refused(Says):
    def test_what_is_no_text(self):
        for row in (None, True, False, 0, 5, [], ["parts"], ("parts",), {}, {"parts": 1}, [("a", [STOP])]):
            self.no_line(Desk(), row)
            self.no_line(self.desk(MAIN, LIB), row)

    def test_unlike_rows(self):
        for row in ("", " ", "\n", "part", "Parts", "PARTS", "partss", "part a", "set 0 5", "stop", "start::", "show", "quit", "puts", "dropp lib", "lays 0 1",
                    "classes;", "~", "-", "0", "5", "mark", "touched", "base", "layout", "parts parts"):
            self.no_line(self.desk(MAIN, LIB), row)
            self.no_line(Desk(), row)

    def test_words_too_few_or_too_many(self):
        for row in ("drop", "drop lib main", "lay", "lay 0", "lay 0 1 1", "parts a", "parts 0", "keep", "fold a", "fold 0", "run", "run start", "go", "go start",
                    "cells 0", "cells a", "place", "place start double", "moves a", "moves 0", "build a", "build 0", "read", "read 0 0", "needed",
                    "needed start double", "classes a", "classes 0"):
            self.no_line(self.desk(MAIN, LIB), row)
            self.no_line(Desk(), row)

    def test_blanks(self):
        rows = ["drop lib", "lay 0 1", "parts", "keep lib main", "fold", "run start 5 1 2", "go start 5 1 2", "cells", "place start", "moves", "build", "read 0",
                "needed start", "classes"]
        desk = self.desk(MAIN, LIB)
        for row in rows:
            for wrong in (" " + row, row + " ", row + "  ", "  " + row, row.upper(), row.replace(" ", "\n", 1) if " " in row else row + "\n"):
                self.no_line(desk, wrong)
            for at in [at for at, sign in enumerate(row) if sign == " "]:
                self.no_line(desk, row[:at] + " " + row[at:])
        for row in rows:
            if not row.startswith("drop"):
                desk.say(row)

    def test_names_that_are_none(self):
        desk = self.desk(MAIN, LIB)
        for word in NO_WORDS:
            for row in ("drop {}", "keep {}", "keep lib {}", "keep {} lib", "run {} 5", "go {} 5", "run {} 5 1", "place {}", "needed {}"):
                self.no_line(desk, row.replace("{}", word))
                self.no_line(Desk(), row.replace("{}", word))

    def test_numbers_that_are_none(self):
        desk = self.desk(MAIN, LIB)
        for word in NO_NUMBERS:
            for row in ("lay {} 1", "lay 0 {}", "run start {}", "go start {}", "run start 5 {}", "go start 5 {}", "run start 5 1 {} 2", "go start 5 1 2 {}",
                        "read {}"):
                self.no_line(desk, row.replace("{}", word))
                self.no_line(Desk(), row.replace("{}", word))

    def test_a_text_behind_a_row_that_takes_none(self):
        desk = self.desk(MAIN, LIB)
        for row in ("drop lib", "lay 0 1", "parts", "keep lib", "fold", "run start 5", "go start 5", "cells", "place start", "moves", "build", "read 0",
                    "needed start", "classes"):
            for text in ("", "part a\nstop", "x", "\n"):
                self.no_line(desk, row + "\n" + text)
        self.says(desk, "parts", LIB + "\n" + MAIN)

    def test_put_without_its_text_or_with_words(self):
        for row in ("put", "put ", " put", "put part a", "put a\npart a\nstop", "put \npart a\nstop", " put\npart a\nstop", "put 1\npart a\nstop",
                    "\nput\npart a\nstop", "puts\npart a\nstop", "Put\npart a\nstop", "put part a\nstop"):
            desk = Desk()
            self.no_line(desk, row)
            self.says(desk, "parts", "")

    def test_no_line_goes_ahead_of_all_others(self):
        for desk in (Desk(), self.desk("part a\njump gone"), self.desk(MAIN, LIB, base=65535)):
            for row in ("run gone 501", "go gone -1", "place gone gone", "drop gone ", "lay 1 2 3", "needed Gone", "put x\nhalt", "read 0x0", "keep",
                        "fold all", "classes all", "cells all", "moves all", "build all"):
                self.no_line(desk, row)

    def test_wrong_parts_by_all_rows_that_ask_of_parts(self):
        for texts, error, fields in (
                ([], BadParts, {}),
                (["part a" + "\nstop" * 61], BadParts, {}),
                (["\n".join(f"part {name}\nstop" for name in "abcdefghijklm")], BadParts, {}),
                (["part a\nx::"], BadParts, {}),
                (["part b\nsay 0", "part c\njump gone"], NoEnd, {"part": "b", "row": 0}),
                (["part b\nstop\nx:", "part c\njump gone"], NoEnd, {"part": "b", "row": 1}),
                (["part b\nx::\nstop", "part a\nx::\njump gone"], Twice, {"name": "x", "parts": ["a", "b"]}),
                (["part b\nstart::\nstop\njump gone"], Lacking, {"name": "gone", "part": "b", "row": 1}),
                (["part b\nstart::\nstop\nload 0 0 start\nstop"], WrongAim, {"name": "start", "part": "b", "row": 1})):
            for base in (0, 65536):
                for row in ASKING:
                    desk = self.desk(*texts, base=base)
                    before = desk.say("parts")
                    self.assertEqual(self.refused(error, desk.say, (row,)), fields, row)
                    self.says(desk, "parts", before)

    def test_wrong_parts_go_ahead_of_starts_names_and_places(self):
        desk = self.desk("part a\njump gone")
        for row in ("run nobody 5", "go nobody 5", "needed nobody", "place nobody", "read -1"):
            self.assertEqual(self.refused(Lacking, desk.say, (row,)), {"name": "gone", "part": "a", "row": 0})

    def test_what_is_refused_changes_nothing(self):
        desk = self.desk(MAIN, LIB, "part zz\nstop", base=8, border=4)
        self.says(desk, "build", "lib main zz")
        told = [desk.say(row) for row in ("parts", "cells", "moves", "place start", "classes", "needed start", "run start 9 1", "go start 9 1")]
        for row, error in (("drop gone", NoName), ("lay 1 2", BadBase), ("lay 0 0", BadBase), ("put\npart a\nstop\npart b", NoText), ("put\n", NoText),
                           ("put", NoLine), ("keep", NoLine), ("keep A", NoLine), ("keep lib A", NoLine), ("fold x", NoLine), ("lay 0", NoLine),
                           ("run gone 5", NoStart), ("go gone 5", NoStart), ("place gone", NoName), ("read 7", NoCells), ("needed gone", NoStart),
                           ("drop lib ", NoLine), ("drop lib\n", NoLine), ("lay 0 1\n", NoLine), (None, NoLine)):
            self.refused(error, desk.say, (row,))
            self.assertEqual([desk.say(row) for row in ("parts", "cells", "moves", "place start", "classes", "needed start", "run start 9 1", "go start 9 1")],
                             told)
        self.says(desk, "build", "")

    def test_a_refused_fold_changes_nothing(self):
        desk = self.lacking_desk()
        self.assertEqual(self.refused(Lacking, desk.say, ("fold",)), {"name": "gone", "part": "c", "row": 0})
        self.says(desk, "parts", "part a\nstop\npart b\nstop\npart c\njump gone")
        self.says(desk, "put\npart c\nback", "ok")
        self.says(desk, "build", "c")

    def lacking_desk(self):
        desk = self.desk("part b\nstop\npart a\nstop")
        self.says(desk, "build", "a b")
        self.says(desk, "put\npart c\njump gone", "ok")
        return desk


class TwoDesks(Says):
    def test_they_know_nothing_of_one_another(self):
        one, other = self.desk(MAIN, LIB), Desk()
        self.says(other, "parts", "")
        self.says(one, "lay 8 4", "ok")
        self.says(other, "put\n" + MAIN + "\n" + LIB, "ok")
        self.says(other, "place start", "2")
        self.says(one, "place start", "12")
        self.says(one, "build", "lib main")
        self.says(other, "drop main", "ok")
        self.says(other, "build", "lib")
        self.says(one, "build", "")

    def test_the_argument_has_its_name(self):
        self.assertEqual(Desk().say(row="parts"), "")


class PlainDesk:
    """Answers as the interface tells it, straight by the stages: parts in a list, in the order in which they were put."""

    def __init__(self):
        self.kept, self.base, self.border, self.keeper = [], 0, 1, Keeper()

    def put(self, part):
        at = [number for number, one in enumerate(self.kept) if one[0] == part[0]]
        if at:
            self.kept[at[0]] = part
        else:
            self.kept.append(part)

    def sorted_parts(self):
        return sorted(self.kept, key=lambda part: part[0])

    def build(self):
        laid(self.kept, self.base, self.border)
        for name in [name for name in "abcdefghijklmnopqrstuvwxyz"] + ["ab", "zz"]:
            try:
                self.keeper.drop(name)
            except PartError:
                pass
        for part in self.kept:
            self.keeper.put(part)
        self.keeper.build()
        return " ".join(self.keeper.touched())

    def say(self, row):
        head, *text = row.split("\n", 1)
        kind, *words = head.split(" ")
        parts = self.sorted_parts()
        if kind == "put":
            for part in read_parts(text[0]):
                self.put(part)
            return "ok"
        if kind in ("drop", "keep"):
            if kind == "drop" and words[0] not in [part[0] for part in parts]:
                raise NoName(words[0])
            self.kept = [part for part in self.kept if (part[0] in words) == (kind == "keep")]
            return "ok"
        if kind == "lay":
            self.keeper = Keeper(int(words[0]), int(words[1]))
            self.base, self.border, self.kept = int(words[0]), int(words[1]), parts
            return "ok"
        if kind == "fold":
            self.kept = folded(parts, classes(parts))
            return "ok"
        if kind == "build":
            return self.build()
        if kind == "parts":
            return show_parts(parts)
        if kind == "needed":
            return " ".join(needed(parts, words[0]))
        if kind == "classes":
            return "; ".join(" ".join(one) for one in classes(parts))
        if kind in ("run", "go"):
            numbers = [int(word) for word in words[1:]]
            told = run_names(parts, words[0], numbers[1:], numbers[0])
            if kind == "go":
                image = laid(parts, self.base, self.border)
                told = run_cells(image.cells(), self.base, image.place_of(words[0]), numbers[1:], numbers[0])
            return " ".join(str(one) for one in told[0] + [told[1]])
        image = laid(parts, self.base, self.border)
        if kind == "place":
            return str(image.place_of(words[0]))
        return " ".join(str(one) for one in (image.cells() if kind == "cells" else image.moves()))


def any_row(chance, stock, names):
    kinds = ["put"] * 4 + ["drop", "lay", "keep", "fold", "parts", "cells", "place", "moves", "build", "build", "build", "needed", "classes", "run", "go"]
    kind = chance.choice(kinds)
    if kind == "put":
        return "put\n" + show_parts(chance.choices(stock, k=chance.choice([1, 1, 2, 5])))
    if kind == "drop":
        return "drop " + chance.choice(stock)[0]
    if kind == "keep":
        return "keep " + " ".join(part[0] for part in chance.choices(stock, k=6))
    if kind == "lay":
        return "lay " + chance.choice(["0 1", "8 4", "64 64", "1 2", "65400 1", "0 65", "-1 1"])
    if kind in ("place", "needed"):
        return kind + " " + chance.choice(names)
    if kind in ("run", "go"):
        return " ".join([kind, chance.choice(names), str(chance.choice([0, 20, 500]))] + [str(chance.randint(-1, 3)) for turn in range(3)])
    return kind


class ByChance(Says):
    def outcome(self, desk, row):
        try:
            return desk.say(row)
        except PartError as error:
            return (type(error).__name__, vars(error))

    def test_any_rows(self):
        chance = random.Random(49)
        seen = {}
        for turn in range(80):
            stock = lively_parts(chance, 4)
            names = code_names(stock) + ["gone", "n" + stock[0][0]]
            stock += [("q", [("jump", "gone")]), ("d", [mark("x"), STOP]), ("e", [mark("y", False), STOP])]
            desk, other = Desk(), PlainDesk()
            for step in range(40):
                row = any_row(chance, stock, names)
                right = self.outcome(other, row)
                self.assertEqual(self.outcome(desk, row), right, row)
                self.assertEqual(desk.say("parts"), other.say("parts"))
                seen[right[0] if isinstance(right, tuple) else row.split()[0]] = True
        for word in ("put", "drop", "lay", "keep", "fold", "parts", "cells", "place", "moves", "build", "needed", "classes", "run", "go",
                     "NoName", "NoStart", "BadBase", "BadParts", "Lacking", "TooFar"):
            self.assertIn(word, seen)


if __name__ == "__main__":
    unittest.main()
