"""Promise 8, and of promise 2 that what is told is the asker's own."""

import copy
import unittest

from farjump.errors import BadParts, BadRow, NoEnd
from farjump.parts import looked_at
from farjump.rows import CodeRow, DataRow, MarkRow

STOP = ("stop",)
SAY = ("say", 0)
NUMBERS = ("numbers", [1, 2])
TABLE = ("table", ["start"])
WRONG = ("say", 4)
START = ("mark", "start", True)
TWELVE = ["a", "b", "c", "d", "e", "f", "g", "h", "i", "j", "k", "l"]

GOES_ON = [("set", 1, -5), ("add", 0, 3), ("take", 3, 0), ("say", 2), ("ask", 2), ("jumpif", 1, "aim"), ("call", "aim"),
           ("load", 1, 2, "aim"), ("alike", 1, "one", "other")]
ENDS = [("jump", "aim"), ("back",), ("stop",), ("jumpby", 1, "aim")]
DATA = [NUMBERS, TABLE]


def marks(count):
    return [("mark", "m", False)] * count


def rows_with_marks(rows, before):
    return marks(before) + list(rows)


def words_of(told):
    return [(name, [row.words() for row in rows]) for name, rows in told]


class LookedAt(unittest.TestCase):
    def refused(self, error, parts):
        before = repr(parts)
        with self.assertRaises(error) as caught:
            looked_at(parts)
        self.assertIs(type(caught.exception), error)
        self.assertEqual(repr(parts), before)
        return caught.exception

    def refused_at(self, error, part, row, parts):
        refusal = self.refused(error, parts)
        self.assertEqual((refusal.part, refusal.row), (part, row))

    def taken(self, parts):
        before = copy.deepcopy(parts)
        told = looked_at(parts)
        self.assertEqual(parts, before)
        self.assertEqual(words_of(told), before)
        return told


class GoodParts(LookedAt):
    def test_parts_are_told_in_their_order_with_their_marks(self):
        parts = [
            ("main", [START, ("set", 0, 3), ("mark", "again", False), SAY, ("jumpif", 0, "again"), STOP]),
            ("fees", [("mark", "fees", False), NUMBERS, ("mark", "ways", True), ("mark", "more", True), TABLE]),
            ("a", [("back",)]),
        ]
        told = self.taken(parts)
        self.assertIsInstance(told, list)
        for part in told:
            self.assertIsInstance(part, tuple)
            self.assertEqual(len(part), 2)
            self.assertIsInstance(part[1], list)
        above = [[[isinstance(row, one) for one in (MarkRow, CodeRow, DataRow)].index(True) for row in rows]
                 for name, rows in told]
        self.assertEqual(above, [[0, 1, 0, 1, 1, 1], [0, 2, 0, 0, 2], [1]])

    def test_each_row_that_ends_may_stand_last(self):
        for row in ENDS + DATA:
            with self.subTest(row):
                self.taken([("a", [row])])
                self.taken([("a", marks(3) + [row])])
                self.taken([("a", [STOP, row])])

    def test_each_row_that_ends_may_have_data_or_code_behind_it(self):
        for row in ENDS + DATA:
            for behind in DATA + [STOP]:
                with self.subTest((row, behind)):
                    self.taken([("a", [row, behind])])
                    self.taken([("a", [row] + marks(2) + [behind])])

    def test_each_row_that_goes_on_may_have_code_behind_it(self):
        for row in GOES_ON:
            with self.subTest(row):
                self.taken([("a", [row, STOP])])
                self.taken([("a", [row] + marks(2) + [STOP, NUMBERS])])
                self.taken([("a", [row, row, STOP])])

    def test_names_of_marks_and_aims_are_not_looked_at_here(self):
        self.taken([("a", [START, START, STOP]), ("b", [START, ("jump", "nowhere")])])

    def test_what_is_told_is_the_askers_own(self):
        numbers = [1, 2]
        rows = [START, ("numbers", numbers)]
        parts = [("a", rows), ("b", [STOP])]
        before = copy.deepcopy(parts)
        told = looked_at(parts)
        numbers.append(3)
        rows.append(STOP)
        parts.pop()
        self.assertEqual(words_of(told), before)
        other = looked_at(before)
        told[0][1].clear()
        told.clear()
        other[0][1][1].words()[1].clear()
        self.assertEqual(words_of(other), [("a", [START, ("numbers", [1, 2])]), ("b", [STOP])])
        self.assertEqual(words_of(other), before)
        self.assertEqual(words_of(looked_at(before)), before)


class NoParts(LookedAt):
    def test_no_list(self):
        part = ("a", [STOP])
        for thing in [None, True, 0, "a", "", (), (part,), part, {}, {"a": [STOP]}, {part[0]}, range(1), object()]:
            with self.subTest(repr(thing)):
                self.refused(BadParts, thing)

    def test_none_one_twelve_and_thirteen_parts(self):
        self.refused(BadParts, [])
        self.taken([("a", [STOP])])
        self.taken([(name, [STOP]) for name in TWELVE])
        self.refused(BadParts, [(name, [STOP]) for name in TWELVE + ["m"]])
        self.refused(BadParts, [(name, [STOP]) for name in TWELVE + ["m", "n"]])

    def test_something_that_is_no_part(self):
        for thing in [None, True, 0, "a", "ab", [], ["a", [STOP]], (), ("a",), ([STOP],), ("a", [STOP], None),
                      ("a", [STOP], [STOP]), ([STOP], "a"), {"a": [STOP]}, STOP, object()]:
            with self.subTest(repr(thing)):
                self.refused(BadParts, [thing])
                self.refused(BadParts, [("good", [STOP]), thing])
                self.refused(BadParts, [thing, ("good", [STOP])])

    def test_names_that_are_none(self):
        for name in ["", "abcdefghi", "A", "a b", "a1", "a\n", None, True, 0, ["a"], ("a",), b"a"]:
            with self.subTest(repr(name)):
                self.refused(BadParts, [(name, [STOP])])
                self.refused(BadParts, [("good", [STOP]), (name, [STOP])])
        self.taken([("abcdefgh", [STOP])])

    def test_names_told_twice(self):
        self.refused(BadParts, [("a", [STOP]), ("a", [STOP])])
        self.refused(BadParts, [("a", [STOP]), ("a", [SAY, STOP])])
        self.refused(BadParts, [("a", [STOP]), ("b", [STOP]), ("a", [STOP])])
        self.refused(BadParts, [("b", [STOP]), ("a", [STOP]), ("a", [STOP])])
        self.taken([("a", [STOP]), ("b", [STOP]), ("ab", [STOP])])

    def test_rows_that_are_no_list(self):
        for rows in [None, True, 0, "", "stop", (), (STOP,), STOP, {}, {0: STOP}, range(1), object()]:
            with self.subTest(repr(rows)):
                self.refused(BadParts, [("a", rows)])
                self.refused(BadParts, [("good", [STOP]), ("a", rows)])

    def test_no_row(self):
        self.refused(BadParts, [("a", [])])
        self.refused(BadParts, [("good", [STOP]), ("a", [])])

    def test_marks_alone(self):
        for count in (1, 2, 60, 61, 200):
            with self.subTest(count):
                self.refused(BadParts, [("a", marks(count))])
                self.refused(BadParts, [("good", [STOP]), ("a", marks(count))])

    def test_one_sixty_and_sixty_one_rows(self):
        for before in (0, 1, 60, 61, 200):
            with self.subTest(before):
                self.taken([("a", rows_with_marks([STOP], before))])
                self.taken([("a", rows_with_marks([STOP] * 59, before))])
                self.taken([("a", rows_with_marks([STOP] * 60, before))])
                self.refused(BadParts, [("a", rows_with_marks([STOP] * 61, before))])
                self.refused(BadParts, [("good", [STOP]), ("a", rows_with_marks([STOP] * 61, before))])
                self.refused(BadParts, [("a", rows_with_marks([STOP] * 61, before)), ("good", [STOP])])

    def test_two_hundred_and_two_hundred_and_one_rows(self):
        self.taken([(name, [STOP] * 50) for name in "abcd"])
        self.taken([(name, rows_with_marks([STOP] * 50, 50)) for name in "abcd"])
        self.refused(BadParts, [(name, [STOP] * 50) for name in "abc"] + [("d", [STOP] * 51)])
        self.refused(BadParts, [("d", [STOP] * 51)] + [(name, [STOP] * 50) for name in "abc"])
        self.refused(BadParts, [(name, [STOP] * 60) for name in "abc"] + [("d", [STOP] * 21)])
        self.taken([(name, [STOP] * 60) for name in "abc"] + [("d", [STOP] * 20)])

    def test_two_hundred_and_two_hundred_and_one_marks(self):
        self.taken([("a", rows_with_marks([STOP], 200))])
        self.refused(BadParts, [("a", rows_with_marks([STOP], 201))])
        self.taken([(name, rows_with_marks([STOP] * 50, 50)) for name in "abcd"])
        self.refused(BadParts, [(name, rows_with_marks([STOP], 50)) for name in "abc"]
                     + [("d", rows_with_marks([STOP], 51))])
        self.refused(BadParts, [("d", rows_with_marks([STOP], 199)), ("e", rows_with_marks([STOP], 2))])
        self.taken([("d", rows_with_marks([STOP], 199)), ("e", rows_with_marks([STOP], 1))])

    def test_what_has_mark_ahead_counts_as_a_mark_whatever_it_is(self):
        for wrong in [("mark",), ("mark", "a"), ("mark", 5, 5), ("mark", "A", True), ("mark", "a", 1), ("mark", "a", True, 0)]:
            with self.subTest(wrong):
                self.refused(BadParts, [("a", [wrong])])
                self.refused_at(BadRow, "a", 0, [("a", [wrong] * 200 + [STOP] * 60)])
                self.refused(BadParts, [("a", [wrong] * 201 + [STOP])])
                self.refused(BadParts, [("a", [wrong] * 101 + [STOP]), ("b", [wrong] * 100 + [STOP])])

    def test_anything_else_counts_as_a_row_that_is_no_mark(self):
        for wrong in [None, True, 0, "mark", "", [], ["mark"], ["mark", "a", True], (), ("Mark", "a", True), (["mark"],),
                      ({},), ("say", "mark"), {"mark": 1}, ("marks", "a", True), (None, "a", True)]:
            with self.subTest(repr(wrong)):
                self.refused_at(BadRow, "a", 0, [("a", [wrong])])
                self.refused_at(BadRow, "a", 0, [("a", [wrong] * 60)])
                self.refused(BadParts, [("a", [wrong] * 61)])
                self.refused_at(BadRow, "a", 0, [(name, [wrong] * 50) for name in "abcd"])
                self.refused(BadParts, [(name, [wrong] * 50) for name in "abcd"] + [("e", [wrong])])


class WrongRows(LookedAt):
    def test_the_fields_tell_the_part_and_the_row_with_marks_counted(self):
        self.refused_at(BadRow, "a", 0, [("a", [WRONG])])
        self.refused_at(BadRow, "a", 1, [("a", [STOP, WRONG])])
        self.refused_at(BadRow, "a", 3, [("a", marks(2) + [STOP, WRONG, STOP])])
        self.refused_at(BadRow, "b", 2, [("a", [STOP, STOP, STOP]), ("b", [START, STOP, WRONG])])
        self.refused_at(BadRow, "a", 59, [("a", [STOP] * 59 + [WRONG])])
        self.refused_at(BadRow, "a", 260 - 1, [("a", marks(200) + [STOP] * 59 + [WRONG])])

    def test_a_wrong_mark(self):
        self.refused_at(BadRow, "a", 1, [("a", [START, ("mark", "a", 1), STOP])])
        self.refused_at(BadRow, "a", 1, [("a", [STOP, ("mark", "a")])])

    def test_the_first_one_is_told(self):
        self.refused_at(BadRow, "b", 1, [("b", [STOP, WRONG, None]), ("a", [WRONG])])
        self.refused_at(BadRow, "z", 1, [("z", [STOP, WRONG]), ("a", [WRONG])])
        self.refused_at(BadRow, "a", 0, [("z", [STOP]), ("a", [("mark",), WRONG])])

    def test_things_of_all_kinds(self):
        for thing in [None, True, 0, "stop", [], ["stop"], (), ("stop", 1), ("halt",), {}, object(), ("numbers", (1,)),
                      ("numbers", []), ("table", ["A"])]:
            with self.subTest(repr(thing)):
                self.refused_at(BadRow, "a", 1, [("a", [STOP, thing])])
                self.refused_at(BadRow, "a", 0, [("a", [thing, STOP])])


class NoEnds(LookedAt):
    def test_a_row_that_goes_on_at_the_end(self):
        for row in GOES_ON:
            with self.subTest(row):
                self.refused_at(NoEnd, "a", 0, [("a", [row])])
                self.refused_at(NoEnd, "a", 1, [("a", [STOP, row])])
                self.refused_at(NoEnd, "a", 1, [("a", [START, row])])
                self.refused_at(NoEnd, "b", 2, [("a", [STOP]), ("b", [START, SAY, row])])
                self.refused_at(NoEnd, "a", 0, [("a", [row]), ("b", [STOP])])

    def test_a_row_that_goes_on_with_data_behind_it(self):
        for row in GOES_ON:
            for data in DATA:
                with self.subTest((row, data)):
                    self.refused_at(NoEnd, "a", 0, [("a", [row, data])])
                    self.refused_at(NoEnd, "a", 0, [("a", [row, data, STOP])])
                    self.refused_at(NoEnd, "a", 1, [("a", [START, row] + marks(2) + [data, STOP])])
                    self.refused_at(NoEnd, "a", 1, [("a", [row, row, data, STOP])])

    def test_a_mark_at_the_end(self):
        for row in ENDS + DATA:
            with self.subTest(row):
                self.refused_at(NoEnd, "a", 1, [("a", [row, START])])
                self.refused_at(NoEnd, "a", 1, [("a", [row] + marks(3))])
                self.refused_at(NoEnd, "a", 2, [("a", [START, row, START])])
                self.refused_at(NoEnd, "b", 1, [("a", [START, STOP]), ("b", [row, START])])
                self.refused_at(NoEnd, "b", 1, [("b", [row, START]), ("a", [START, STOP])])

    def test_a_row_that_goes_on_with_marks_alone_behind_it(self):
        self.refused_at(NoEnd, "a", 0, [("a", [SAY, START])])
        self.refused_at(NoEnd, "a", 1, [("a", [START, SAY, START, START])])

    def test_the_first_one_is_told(self):
        self.refused_at(NoEnd, "b", 0, [("b", [SAY]), ("a", [SAY])])
        self.refused_at(NoEnd, "a", 0, [("a", [SAY, NUMBERS, SAY])])
        self.refused_at(NoEnd, "z", 1, [("z", [STOP, START]), ("a", [SAY])])
        self.refused_at(NoEnd, "a", 1, [("y", [STOP]), ("a", [SAY, SAY]), ("b", [SAY])])


class TheOrder(LookedAt):
    def test_bad_parts_go_ahead_of_wrong_rows_and_lacking_ends(self):
        for first in ([WRONG], [SAY], [STOP, START]):
            with self.subTest(first):
                self.refused(BadParts, [("a", first), ("b", [])])
                self.refused(BadParts, [("a", first), ("b", marks(1))])
                self.refused(BadParts, [("a", first), ("a", [STOP])])
                self.refused(BadParts, [("a", first), ("B", [STOP])])
                self.refused(BadParts, [("a", first), ("b", [STOP] * 61)])
                self.refused(BadParts, [("a", first), None])
                self.refused(BadParts, [(name, first) for name in TWELVE + ["m"]])
                self.refused(BadParts, [("a", marks(201) + first)])
                self.refused(BadParts, [("x", first)] + [(name, [STOP] * 50) for name in "abcd"])

    def test_wrong_rows_go_ahead_of_lacking_ends(self):
        self.refused_at(BadRow, "a", 1, [("a", [SAY, WRONG])])
        self.refused_at(BadRow, "a", 2, [("a", [SAY, NUMBERS, WRONG])])
        self.refused_at(BadRow, "b", 1, [("a", [SAY]), ("b", [STOP, WRONG])])
        self.refused_at(BadRow, "b", 0, [("a", [STOP, START]), ("b", [("mark",), STOP])])


if __name__ == "__main__":
    unittest.main()
