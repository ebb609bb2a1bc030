"""Promises 45 to 47, and of promise 2 that what is told is the asker's own."""

import copy
import random
import re
import unittest

from farjump.cells import read_code
from farjump.errors import NoText
from farjump.laid import laid
from farjump.texts import read_parts, show_parts, show_row
from tests.helper import HUGE, STOP, Refusals, lively_parts, mark

LEAST = -2147483648
GREATEST = 2147483647

# A row of each kind, as it is written.
ROWS = [
    (("mark", "fees", False), "fees:"),
    (("mark", "start", True), "start::"),
    (("mark", "a", True), "a::"),
    (("mark", "abcdefgh", False), "abcdefgh:"),
    (("mark", "part", True), "part::"),
    (("mark", "stop", False), "stop:"),
    (("set", 0, -5), "set 0 -5"),
    (("set", 3, 0), "set 3 0"),
    (("set", 1, LEAST), "set 1 -2147483648"),
    (("set", 2, GREATEST), "set 2 2147483647"),
    (("add", 0, 3), "add 0 3"),
    (("take", 2, 1), "take 2 1"),
    (("say", 3), "say 3"),
    (("ask", 0), "ask 0"),
    (("jump", "again"), "jump again"),
    (("jump", "jump"), "jump jump"),
    (("jumpif", 2, "away"), "jumpif 2 away"),
    (("call", "double"), "call double"),
    (("back",), "back"),
    (("stop",), "stop"),
    (("load", 1, 0, "fees"), "load 1 0 fees"),
    (("jumpby", 3, "words"), "jumpby 3 words"),
    (("alike", 2, "one", "two"), "alike 2 one two"),
    (("numbers", [3, -1, 0]), "numbers 3 -1 0"),
    (("numbers", [0]), "numbers 0"),
    (("numbers", [LEAST, GREATEST]), "numbers -2147483648 2147483647"),
    (("numbers", [7] * 60), "numbers" + " 7" * 60),
    (("table", ["one", "two"]), "table one two"),
    (("table", ["a"]), "table a"),
    (("table", ["x"] * 60), "table" + " x" * 60),
]

# Lines that are no row and no part's name.
NO_LINES = [
    "", " ", "  ", "part", "part ", "part  a", "part a b", "part A", "part a1", "part abcdefghi", " part a", "part a ", "Part a", "parts a",
    ":", "::", ":::", "a:::", "a::::", "a: ", "a:: ", " a:", "a :", "a: :", ":a", "A:", "abcdefghi:", "abcdefghi::", "a b:", "a1:", "a;", "-:",
    "a", "fees", "mark", "mark a", "mark a True", "mark a 1", "mark a 0", "mark a true", "nothing", "Stop", "STOP", "stops", "sto", "stop stop",
    "stop ", " stop", "stop  ", "stop 0", "stop a", "back ", "back 1", " back", "back a", "halt", "halt 1", "jumps a",
    "set", "set 0", "set 0 ", "set  0 5", "set 0  5", "set 0 5 ", " set 0 5", "set 0 5 6", "set 4 5", "set -1 5", "set a 5", "set 0 a", "set 00 5",
    "set 0 05", "set 0 00", "set 0 -0", "set 0 -05", "set 0 -", "set 0 --5", "set 0 +5", "set 0 5.", "set 0 5.0", "set 0 1e3", "set 0 1_0",
    "set 0 0x1", "set 0 2147483648", "set 0 -2147483649", "set -0 5", "set 0 5-", "set 0 - 5", "set 0 " + "9" * 60, "set 0 -" + "9" * 60,
    "set 0 " + "9" * 61, "set 0 " + "0" * 60 + "5", "set 0 1" + "0" * 5000, "set 0 0" + "1" * 60, "set True 5", "set 0 True", "set 0 None",
    "add", "add 0", "add 0 4", "add 4 0", "add 0 0 0", "add a 0", "add 0 a", "add 0  0", "add 0 00", "add 0 -1", "add 01 0", "take", "take 1",
    "take 1 4", "take 1 2 3", "take -1 2", "say", "say ", "say 4", "say -1", "say a", "say 0 0", "say 00", "say 10", "say  0", "ask", "ask 4",
    "ask a", "ask 1 1", "ask 01", "ask -0",
    "jump", "jump ", "jump A", "jump a b", "jump 5", "jump a1", "jump abcdefghi", "jump  a", "jump a ", "jump a:", "jump -", "call", "call 1",
    "call a b", "call Abc", "jumpif", "jumpif 0", "jumpif a", "jumpif a 0", "jumpif 4 a", "jumpif 0 a b", "jumpif 0 5", "jumpif  0 a",
    "jumpif 0  a", "jumpby", "jumpby 0", "jumpby 4 a", "jumpby 0 a b", "jumpby 0 25", "jumpby a b", "load", "load 0", "load 0 1", "load 0 a",
    "load 0 4 a", "load 4 0 a", "load 0 1 a b", "load 0 1 300", "load 0 1 ", "load 0  1 a", "alike", "alike 0", "alike 0 a", "alike 4 a b",
    "alike 0 a b c", "alike 0 a 5", "alike 0 5 a", "alike a b", "alike a b c", "alike 0 a  b",
    "numbers", "numbers ", "numbers a", "numbers 1 a", "numbers  1", "numbers 1  2", "numbers 1 2 ", "numbers 01", "numbers 1 -0", "numbers 1 00",
    "numbers 2147483648", "numbers 1 -2147483649", "numbers 1,2", "numbers [1]", "numbers" + " 7" * 61, "numbers " + "9" * 61, "numbers -",
    "table", "table ", "table 1", "table a 1", "table A", "table a  b", "table a b ", "table  a", "table abcdefghi", "table" + " x" * 61,
    "table a:", "table [a]", "table -",
]


class Texts(Refusals):
    def reads(self, text, parts):
        told = read_parts(text)
        self.assertEqual(told, parts)
        self.assertIs(type(told), list)
        for part in told:
            self.assertEqual((type(part), type(part[0]), type(part[1])), (tuple, str, list))
            for row in part[1]:
                self.assertIs(type(row), tuple)
        self.assertEqual(show_parts(told), text)

    def no_text(self, text, line):
        self.assertEqual(self.refused(NoText, read_parts, (text,)), {"line": line})


class Shown(Texts):
    def test_each_kind_of_row(self):
        for row, text in ROWS:
            before = copy.deepcopy(row)
            self.assertEqual(show_row(row), text)
            self.assertIs(type(show_row(row)), str)
            self.assertEqual(row, before)

    def test_rows_by_places(self):
        for row, text in ((("jump", 25), "jump 25"), (("jumpif", 3, 0), "jumpif 3 0"), (("call", 65535), "call 65535"),
                          (("load", 0, 1, 300), "load 0 1 300"), (("jumpby", 2, 7), "jumpby 2 7"), (("alike", 2, 7, 9), "alike 2 7 9"),
                          (("table", [25, 31]), "table 25 31"), (("table", [0]), "table 0"), (("numbers", [3, -1]), "numbers 3 -1"),
                          (("set", 0, -5), "set 0 -5"), (("say", 1), "say 1"), (("stop",), "stop"), (("back",), "back")):
            self.assertEqual(show_row(row), text)

    def test_rows_that_are_read_from_cells(self):
        self.assertEqual(show_row(read_code([64, 81, 1, 2], 1)[0]), "jump 258")
        self.assertEqual(show_row(read_code([17, 255, 255, 255, 254], 0)[0]), "set 1 -2")

    def test_numbers_of_any_size(self):
        for number in (0, 1, -1, 9, 10, -10, 100, 2 ** 31, -2 ** 31 - 1, HUGE, -HUGE, 10 ** 59, -10 ** 59):
            self.assertEqual(show_row(("set", 0, number)), "set 0 " + str(number))
            self.assertEqual(show_row(("numbers", [number, 0, number])), f"numbers {number} 0 {number}")

    def test_parts(self):
        self.assertEqual(show_parts([("a", [STOP])]), "part a\nstop")
        parts = [("main", [mark("start"), mark("m", False), ("set", 0, -5), ("jump", "fees"), mark("n"), ("numbers", [1, -2])]),
                 ("lib", [mark("fees"), STOP]), ("a", [("table", ["start", "m"])])]
        text = "part main\nstart::\nm:\nset 0 -5\njump fees\nn::\nnumbers 1 -2\npart lib\nfees::\nstop\npart a\ntable start m"
        before = copy.deepcopy(parts)
        self.assertEqual(show_parts(parts), text)
        self.assertEqual(parts, before)
        self.assertIs(type(show_parts(parts)), str)

    def test_parts_stand_in_their_order(self):
        self.assertEqual(show_parts([("b", [STOP]), ("a", [STOP]), ("b", [("back",)])]), "part b\nstop\npart a\nstop\npart b\nback")

    def test_no_parts(self):
        self.assertEqual(show_parts([]), "")


class Read(Texts):
    def test_each_kind_of_row(self):
        for row, text in ROWS:
            self.reads("part a\n" + text, [("a", [row])])
            self.reads("part a\nstop\n" + text + "\npart b\nback", [("a", [STOP, row]), ("b", [("back",)])])

    def test_all_rows_in_one_part(self):
        self.reads("part all\n" + "\n".join(text for row, text in ROWS), [("all", [row for row, text in ROWS])])

    def test_truths_and_numbers_are_of_their_kind(self):
        row = read_parts("part a\nx::\nset 1 1\nx:\nnumbers 0 1")[0][1]
        self.assertIs(row[0][2], True)
        self.assertIs(row[2][2], False)
        self.assertEqual([type(one) for one in row[1]], [str, int, int])
        self.assertEqual([type(one) for one in row[3][1]], [int, int])

    def test_all_boxes(self):
        for box in range(4):
            for other in range(4):
                self.reads(f"part a\nload {box} {other} x", [("a", [("load", box, other, "x")])])
                self.reads(f"part a\nadd {box} {other}", [("a", [("add", box, other)])])

    def test_names_of_parts(self):
        for name in ("a", "z", "part", "stop", "abcdefgh", "numbers"):
            self.reads(f"part {name}\nstop", [(name, [STOP])])

    def test_parts_that_are_not_let_by(self):
        self.reads("part a\nstop\npart a\nback", [("a", [STOP]), ("a", [("back",)])])
        self.reads("part a\nstop\npart a\nstop", [("a", [STOP])] * 2)
        self.reads("part a" + "\nstop" * 61, [("a", [STOP] * 61)])
        self.reads("part a" + "\nstop" * 300, [("a", [STOP] * 300)])
        self.reads("part a" + "\nx:" * 300, [("a", [mark("x", False)] * 300)])
        names = "abcdefghijklmnop"
        self.reads("\n".join(f"part {name}\nstop" for name in names), [(name, [STOP]) for name in names])
        self.reads("part a\nsay 0", [("a", [("say", 0)])])
        self.reads("part a\nx::", [("a", [mark("x")])])
        self.reads("part a\nx::\nx::\njump gone", [("a", [mark("x"), mark("x"), ("jump", "gone")])])

    def test_any_parts(self):
        chance = random.Random(47)
        for turn in range(60):
            parts = lively_parts(chance)
            text = show_parts(parts)
            self.reads(text, parts)
            self.assertEqual(laid(read_parts(text)).cells(), laid(parts).cells())


class Refused(Texts):
    def test_what_is_no_text(self):
        for thing in (None, True, False, 0, 5, -1, [], ["part a", "stop"], ("part a\nstop",), {}, [("a", [STOP])]):
            self.no_text(thing, 0)

    def test_a_text_without_signs(self):
        self.no_text("", 0)
        self.no_text("\n", 0)
        self.no_text("\n\n", 0)
        self.no_text("\npart a\nstop", 0)

    def test_no_part_line_ahead(self):
        for row, text in ROWS:
            self.no_text(text, 0)
            self.no_text(text + "\npart a\nstop", 0)

    def test_lines_that_are_none(self):
        for line in NO_LINES:
            with self.subTest(line[:80]):
                self.no_text(line, 0)
                self.no_text(line + "\npart a\nstop", 0)
                self.no_text("part a\n" + line, 1)
                self.no_text("part a\nstop\n" + line, 2)
                self.no_text("part a\n" + line + "\nstop", 1)
                self.no_text("part a\nstop\n" + line + "\nstop", 2)
                self.no_text("part a\nstop\n" + line + "\npart b\nstop", 2)
                self.no_text("part a\nstop\npart b\nx:\n" + line, 4)

    def test_a_part_without_rows(self):
        self.no_text("part a", 1)
        self.no_text("part a\nstop\npart b", 3)
        self.no_text("part a\nstop\nx:\npart b", 4)
        self.no_text("part a\npart b", 1)
        self.no_text("part a\npart b\nstop", 1)
        self.no_text("part a\npart a\nstop", 1)
        self.no_text("part a\nstop\npart b\npart c\nstop", 3)

    def test_a_line_without_signs(self):
        self.no_text("part a\n", 1)
        self.no_text("part a\nstop\n", 2)
        self.no_text("part a\nstop\n\n", 2)
        self.no_text("part a\n\nstop", 1)
        self.no_text("part a\nstop\n\npart b\nstop", 2)
        self.no_text("part a\nstop\npart b\n", 3)
        self.no_text("part a\nstop\npart b\nstop\n", 4)

    def test_the_first_line_that_is_none(self):
        self.no_text("part a\nstop\nhalt\nset\npart", 2)
        self.no_text("part a\npart b\nhalt", 1)
        self.no_text("part a\nhalt\npart b\npart c", 1)
        self.no_text("halt\npart a\npart b", 0)
        self.no_text("part a\nstop\nstop 1\npart b", 2)

    def test_signs_at_the_ends(self):
        for text in (" part a\nstop", "part a \nstop", "part  a\nstop"):
            self.no_text(text, 0)
        for text in ("part a\n stop", "part a\nstop "):
            self.no_text(text, 1)


def plain_row(line):
    """Read otherwise than by the program: each kind by a form of its own."""
    word, box, number = "([a-z]{1,8})", "([0-3])", "(0|-?[1-9][0-9]{0,9})"
    forms = {"set": [box, number], "add": [box, box], "take": [box, box], "say": [box], "ask": [box], "jump": [word], "jumpif": [box, word],
             "call": [word], "back": [], "stop": [], "load": [box, box, word], "jumpby": [box, word], "alike": [box, word, word]}
    found = re.fullmatch(word + "(::?)", line)
    if found:
        return ("mark", found[1], found[2] == "::")
    for kind, form in forms.items():
        found = re.fullmatch(" ".join([kind] + form), line)
        if found:
            row = (kind,) + tuple(one if one.isalpha() else int(one) for one in found.groups())
            return row if kind != "set" or LEAST <= row[2] <= GREATEST else None
    if re.fullmatch("table( [a-z]{1,8}){1,60}", line):
        return ("table", line.split()[1:])
    if re.fullmatch("numbers( (0|-?[1-9][0-9]{0,9})){1,60}", line):
        told = [int(one) for one in line.split()[1:]]
        return ("numbers", told) if LEAST <= min(told) and max(told) <= GREATEST else None
    return None


def plain_read(text):
    """The parts, or the number of the line."""
    parts, lines = [], text.split("\n")
    for number, line in enumerate(lines):
        may_begin = not parts or parts[-1][1]
        if re.fullmatch("part [a-z]{1,8}", line):
            if not may_begin:
                return number
            parts.append((line[5:], []))
        elif not parts or plain_row(line) is None:
            return number
        else:
            parts[-1][1].append(plain_row(line))
    return parts if parts[-1][1] else len(lines)


def spoiled(chance, text):
    """One sign or one line changed, left out, told twice or put in."""
    if chance.random() < 0.6:
        at = chance.randrange(len(text) + 1)
        put = chance.choice(["", " ", "0", "1", "9", "-", "a", "z", "A", ":", "\n", "\n\n", "\n\n\n", "~", "4"])
        return text[:at] + put + text[at + chance.randrange(2):]
    lines = text.split("\n")
    at = chance.randrange(len(lines))
    lines[at:at + chance.randrange(2)] = chance.choice([[], ["part b"], ["part"], ["stop"], ["x:"], ["x::"], [""], [lines[at], lines[at]], ["table x"],
                                                       [lines[at] + " "], ["numbers -0"], [lines[at] + " 1"], [lines[at] + " a"]])
    return "\n".join(lines)


class ByChance(Texts):
    def test_texts_that_are_spoiled(self):
        chance = random.Random(48)
        right_ones, wrong_ones = 0, 0
        for turn in range(4000):
            if turn % 40 == 0:
                whole = show_parts(lively_parts(chance, 2))
            text = whole
            for change in range(chance.choice([1, 1, 2])):
                text = spoiled(chance, text)
            right = plain_read(text)
            if isinstance(right, int):
                self.no_text(text, right)
                wrong_ones += 1
            else:
                self.reads(text, right)
                right_ones += 1
        self.assertGreater(min(right_ones, wrong_ones), 500)


class TheAskersOwn(Texts):
    def test_what_is_read_is_new_each_time(self):
        text = "part a\nx:\nstop\nnumbers 1 2\ntable x"
        first = read_parts(text)
        right = copy.deepcopy(first)
        first[0][1][2][1].append(3)
        first[0][1][3][1].clear()
        first[0][1].clear()
        first.clear()
        self.assertEqual(read_parts(text), right)

    def test_what_is_shown_stays(self):
        numbers = [1, 2]
        parts = [("a", [STOP, ("numbers", numbers)])]
        text = show_parts(parts)
        numbers.append(3)
        self.assertEqual(text, "part a\nstop\nnumbers 1 2")
        self.assertEqual(show_parts(parts), "part a\nstop\nnumbers 1 2 3")

    def test_the_arguments_have_their_names(self):
        self.assertEqual(show_row(row=STOP), "stop")
        self.assertEqual(read_parts(text=show_parts(parts=[("a", [STOP])])), [("a", [STOP])])


if __name__ == "__main__":
    unittest.main()
