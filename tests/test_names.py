"""Promises 12 to 16, and of promise 2 that what is told is the asker's own, and the order of the refusals."""

import copy
import itertools
import random
import unittest

from farjump.errors import BadParts, BadRow, Lacking, NoEnd, Twice, WrongAim
from farjump.names import bound, stands

STOP = ("stop",)
SAY = ("say", 0)

# Good aims of each kind; each code row with what it needs behind it. All names that they ask for stand in AIMS.
CODE = [("set", 1, -5), ("add", 0, 3), ("take", 3, 0), ("say", 2), ("ask", 2), ("jump", "code"), ("jumpif", 1, "code"),
        ("call", "code"), ("back",), ("stop",), ("load", 1, 2, "nums"), ("jumpby", 1, "tab"), ("alike", 1, "nums", "tab")]
NUMBERS = ("numbers", [1, 2])
TABLE = ("table", ["code"])
AIMS = ("zaims", [("mark", "code", True), STOP, ("mark", "nums", True), NUMBERS, ("mark", "tab", True), TABLE])

# Rows that ask for the name "aim", and which kinds of aims each of them wants.
ASKING = [
    (("jump", "aim"), ("code",)),
    (("jumpif", 3, "aim"), ("code",)),
    (("call", "aim"), ("code",)),
    (("load", 0, 3, "aim"), ("numbers",)),
    (("jumpby", 2, "aim"), ("table",)),
    (("alike", 1, "aim", "aim"), ("code", "numbers", "table")),
    (("alike", 1, "aim", "code"), ("code", "numbers", "table")),
    (("alike", 1, "code", "aim"), ("code", "numbers", "table")),
    (("table", ["aim"]), ("code",)),
    (("table", ["code", "aim", "code"]), ("code",)),
]


def mark(name, strong=False):
    return ("mark", name, strong)


def aims():
    return [("code", row) for row in CODE] + [("numbers", NUMBERS), ("table", TABLE)]


class Names(unittest.TestCase):
    def refused(self, asked, error, given, **fields):
        before = copy.deepcopy(given)
        with self.assertRaises(error) as caught:
            asked(given)
        self.assertIs(type(caught.exception), error)
        self.assertEqual(vars(caught.exception), fields)
        self.assertEqual(given, before)

    def in_each_order(self, parts, told):
        for some in itertools.permutations(parts):
            some = list(some)
            before = copy.deepcopy(some)
            self.assertEqual(stands(some), told)
            self.assertEqual(some, before)

    def refused_in_each_order(self, error, given, **fields):
        for some in itertools.permutations(given):
            self.refused(stands, error, list(some), **fields)
            self.refused(bound, error, list(some), **fields)


class Places(Names):
    def test_a_place_counts_rows_and_leaves_marks_out(self):
        rows = [mark("a", True), mark("b"), SAY, mark("c"), SAY, SAY, mark("d", True), mark("e", True), mark("f"), STOP]
        self.in_each_order([("p", rows)], {"a": ("p", 0), "b": ("p", 0), "c": ("p", 1), "d": ("p", 3), "e": ("p", 3),
                                           "f": ("p", 3)})

    def test_code_and_data_rows_are_stood_at(self):
        rows = [STOP, mark("nums", True), NUMBERS, mark("tab"), ("table", ["nowhere"]), mark("end"), STOP]
        self.in_each_order([("p", rows)], {"nums": ("p", 1), "tab": ("p", 2), "end": ("p", 3)})

    def test_each_part_is_counted_by_itself(self):
        parts = [("b", [STOP, STOP, mark("two"), STOP]), ("a", [mark("one"), STOP]), ("c", [STOP, mark("three"), STOP])]
        self.in_each_order(parts, {"one": ("a", 0), "two": ("b", 2), "three": ("c", 1)})

    def test_no_marks_no_names(self):
        self.in_each_order([("a", [STOP]), ("b", [SAY, STOP])], {})

    def test_the_last_of_sixty_rows_and_two_hundred_marks(self):
        self.assertEqual(stands([("a", [SAY] * 59 + [mark("m", False)] * 199 + [mark("n", True), STOP])]),
                         {"m": ("a", 59), "n": ("a", 59)})

    def test_the_name_of_a_part_is_no_name_by_itself(self):
        self.in_each_order([("a", [mark("b"), STOP]), ("b", [STOP, mark("a"), STOP])], {"b": ("a", 0), "a": ("b", 1)})

    def test_what_is_told_is_a_dict_of_tuples(self):
        told = stands([("a", [mark("b"), STOP])])
        self.assertIs(type(told), dict)
        self.assertIs(type(told["b"]), tuple)


class WhoStands(Names):
    def test_the_strong_one_among_weak_ones(self):
        weak = [mark("x"), STOP, mark("x"), STOP]
        strong = [STOP, mark("x"), STOP, mark("x", True), STOP, mark("x"), STOP]
        self.in_each_order([("a", weak), ("b", strong), ("c", weak)], {"x": ("b", 2)})
        self.in_each_order([("a", weak), ("b", weak), ("c", strong)], {"x": ("c", 2)})
        self.in_each_order([("a", strong), ("b", weak), ("c", weak)], {"x": ("a", 2)})

    def test_of_weak_ones_the_first_of_the_first_part_by_name(self):
        one = [STOP, mark("x"), STOP]
        several = [STOP, STOP, mark("x"), STOP, mark("x"), STOP, mark("x"), STOP]
        self.in_each_order([("b", several), ("c", one), ("d", one)], {"x": ("b", 2)})
        self.in_each_order([("b", one), ("c", several), ("d", several)], {"x": ("b", 1)})
        self.in_each_order([("b", [STOP]), ("c", several), ("d", one)], {"x": ("c", 2)})

    def test_parts_come_by_the_order_of_texts(self):
        one = [STOP, mark("x"), STOP]
        self.in_each_order([("b", [mark("x"), STOP]), ("aa", [mark("x"), STOP]), ("ab", one)], {"x": ("aa", 0)})
        self.in_each_order([("b", one), ("ba", one), ("abcdefgh", one)], {"x": ("abcdefgh", 1)})

    def test_weak_ones_twice_at_one_row(self):
        self.in_each_order([("a", [mark("x"), mark("x"), STOP]), ("b", [mark("x"), STOP])], {"x": ("a", 0)})

    def test_a_weak_mark_beside_a_strong_one_changes_nothing(self):
        plain = [("m", [SAY, mark("x", True), STOP]), ("n", [mark("y"), STOP])]
        told = stands(plain)
        self.assertEqual(told, {"x": ("m", 1), "y": ("n", 0)})
        for place in (0, 1, 2):
            rows = list(plain[0][1])
            rows.insert(place, mark("x"))
            self.in_each_order([("m", rows), plain[1]], told)
            self.in_each_order([("m", rows), plain[1], ("a", [STOP, mark("x"), mark("x"), STOP])], told)
            self.in_each_order([("m", rows), plain[1], ("z", [STOP, mark("x"), mark("x"), STOP])], told)

    def test_each_name_by_itself(self):
        parts = [("a", [mark("x"), mark("y"), STOP, mark("z", True), STOP]),
                 ("b", [mark("z"), STOP, mark("x", True), STOP, mark("y"), STOP])]
        self.in_each_order(parts, {"x": ("b", 1), "y": ("a", 0), "z": ("a", 1)})

    def test_names_that_are_asked_for_are_not_looked_at(self):
        self.in_each_order([("a", [("jump", "nowhere")]), ("b", [mark("x"), ("load", 0, 0, "x"), STOP])], {"x": ("b", 0)})


class TwoStrongOnes(Names):
    def test_in_one_part(self):
        self.refused_in_each_order(Twice, [("a", [mark("x", True), STOP, mark("x", True), STOP])], name="x", parts=["a"])
        self.refused_in_each_order(Twice, [("a", [mark("x", True), mark("x", True), STOP])], name="x", parts=["a"])
        self.refused_in_each_order(Twice, [("b", [mark("x", True)] * 3 + [STOP]), ("a", [mark("x"), STOP])],
                                   name="x", parts=["b"])

    def test_in_two_parts(self):
        one = [mark("x", True), STOP]
        self.refused_in_each_order(Twice, [("b", one), ("a", one), ("c", [mark("x"), STOP])], name="x", parts=["a", "b"])

    def test_in_several_parts_and_several_times(self):
        one = [mark("x", True), STOP]
        two = [mark("x", True), STOP, mark("x", True), STOP]
        self.refused_in_each_order(Twice, [("d", two), ("b", two), ("c", one), ("a", [mark("x"), STOP])],
                                   name="x", parts=["b", "c", "d"])

    def test_the_first_name_by_the_order_of_texts(self):
        parts = [("a", [mark("z", True), mark("z", True), mark("b"), STOP]), ("b", [mark("y", True), mark("ab", True), STOP]),
                 ("c", [mark("y", True), mark("a", True), mark("ab", True), STOP]), ("d", [mark("a"), mark("b"), STOP])]
        self.refused_in_each_order(Twice, parts, name="ab", parts=["b", "c"])

    def test_one_strong_mark_of_each_of_two_names_is_right(self):
        self.in_each_order([("a", [mark("x", True), STOP]), ("b", [mark("y", True), STOP])],
                           {"x": ("a", 0), "y": ("b", 0)})

    def test_the_list_of_parts_is_a_new_one(self):
        parts = [("a", [mark("x", True), STOP]), ("b", [mark("x", True), STOP])]
        for asked in (stands, bound):
            for turn in range(2):
                with self.assertRaises(Twice) as caught:
                    asked(parts)
                self.assertEqual(caught.exception.parts, ["a", "b"])
                self.assertIs(type(caught.exception.parts), list)
                caught.exception.parts.clear()


class Aims(Names):
    def test_each_kind_of_row_with_each_kind_of_aim(self):
        for row, wanted in ASKING:
            for kind, aim in aims():
                with self.subTest((row, aim)):
                    asker = [STOP, mark("m"), row, STOP]
                    aimed = [STOP, mark("aim", True), aim, STOP]
                    for parts in ([("p", asker), ("q", aimed), AIMS], [AIMS, ("q", aimed), ("p", asker)],
                                  [("q", asker), AIMS, ("p", aimed)]):
                        asking = [name for name, rows in parts if rows is asker][0]
                        if kind in wanted:
                            self.assertEqual(dict(bound(parts))[asking], [STOP, row, STOP])
                        else:
                            self.refused(bound, WrongAim, parts, name="aim", part=asking, row=1)

    def test_each_kind_of_row_with_no_mark(self):
        for row, wanted in ASKING:
            with self.subTest(row):
                parts = [("p", [mark("m"), STOP, mark("n"), row, STOP]), AIMS]
                self.refused(bound, Lacking, parts, name="aim", part="p", row=1)

    def test_the_name_of_a_part_is_no_mark(self):
        self.refused(bound, Lacking, [("p", [("jump", "p")])], name="p", part="p", row=0)

    def test_a_row_may_aim_at_itself_and_within_its_part(self):
        rows = [mark("here"), ("jump", "here"), mark("tab"), ("table", ["here", "here"]), ("jumpby", 0, "tab")]
        self.assertEqual(bound([("p", rows)]), [("p", [row for row in rows if row[0] != "mark"])])

    def test_the_mark_that_stands_is_the_one_looked_at(self):
        weak_at_data = ("a", [mark("x"), NUMBERS])
        strong_at_code = ("b", [mark("x", True), STOP])
        jump = ("p", [("jump", "x")])
        load = ("p", [("load", 0, 0, "x"), STOP])
        self.assertEqual(len(bound([jump, weak_at_data, strong_at_code])), 3)
        self.refused(bound, WrongAim, [load, weak_at_data, strong_at_code], name="x", part="p", row=0)
        weak_at_code = ("b", [mark("x"), STOP])
        self.refused(bound, WrongAim, [jump, weak_at_code, weak_at_data], name="x", part="p", row=0)
        self.assertEqual(len(bound([load, weak_at_code, weak_at_data])), 3)

    def test_parts_without_names_are_let_by(self):
        self.assertEqual(bound([("b", [SAY, STOP]), ("a", [NUMBERS])]), [("a", [NUMBERS]), ("b", [SAY, STOP])])


class WhichIsFirst(Names):
    def test_by_the_order_of_the_list(self):
        lacking = [STOP, ("jump", "nowhere")]
        wrong = [("load", 0, 0, "code"), STOP]
        self.refused(bound, Lacking, [("b", lacking), ("a", wrong), AIMS], name="nowhere", part="b", row=1)
        self.refused(bound, WrongAim, [("b", wrong), ("a", lacking), AIMS], name="code", part="b", row=0)
        self.refused(bound, WrongAim, [("a", wrong), AIMS, ("b", lacking)], name="code", part="a", row=0)
        self.refused(bound, Lacking, [AIMS, ("z", lacking), ("a", lacking)], name="nowhere", part="z", row=1)

    def test_row_by_row(self):
        rows = [mark("m"), ("jumpif", 0, "code"), mark("n"), ("call", "nums"), ("jump", "nowhere")]
        self.refused(bound, WrongAim, [("a", rows), AIMS], name="nums", part="a", row=1)
        rows = [mark("m"), ("jumpif", 0, "code"), mark("n"), ("call", "nowhere"), ("jump", "nums")]
        self.refused(bound, Lacking, [("a", rows), AIMS], name="nowhere", part="a", row=1)

    def test_name_by_name_in_a_row(self):
        for words, error, name in [(["code", "gone", "nums"], Lacking, "gone"), (["code", "nums", "gone"], WrongAim, "nums"),
                                   (["tab", "nums"], WrongAim, "tab"), (["z", "a"], Lacking, "z")]:
            with self.subTest(words):
                self.refused(bound, error, [AIMS, ("a", [STOP, ("table", words)])], name=name, part="a", row=1)
        self.refused(bound, Lacking, [("a", [("alike", 0, "z", "b"), STOP])], name="z", part="a", row=0)
        self.refused(bound, Lacking, [("a", [("alike", 0, "code", "b"), STOP]), AIMS], name="b", part="a", row=0)

    def test_twice_goes_ahead_of_lacking_and_wrong_aims(self):
        twice = ("z", [mark("x", True), mark("x", True), STOP])
        self.refused(bound, Twice, [("a", [("jump", "nowhere")]), twice], name="x", parts=["z"])
        self.refused(bound, Twice, [("a", [("load", 0, 0, "x"), STOP]), twice], name="x", parts=["z"])

    def test_what_is_wrong_with_the_parts_goes_ahead(self):
        ahead = [("a", [mark("x", True), mark("x", True), ("jump", "nowhere")])]
        for asked in (stands, bound):
            for thing in (None, (), [], ahead + [None], ahead + ahead, ahead + [("b", [])], ahead + [("b", [STOP] * 61)]):
                with self.subTest(repr(thing)):
                    self.refused(asked, BadParts, thing)
            self.refused(asked, BadRow, ahead + [("b", [STOP, mark("x"), ("say", 4)])], part="b", row=2)
            self.refused(asked, BadRow, ahead + [("b", [SAY, ("say", 4)])], part="b", row=1)
            self.refused(asked, NoEnd, ahead + [("b", [mark("y"), SAY])], part="b", row=1)
            self.refused(asked, NoEnd, ahead + [("b", [STOP, mark("y")])], part="b", row=1)


class BareParts(Names):
    def test_sorted_by_name_with_marks_left_out(self):
        parts = [("c", [mark("c"), STOP, mark("d", True), ("table", ["c", "e", "c"]), mark("e"), STOP]),
                 ("ab", [NUMBERS]), ("b", [mark("m"), mark("n"), ("set", 0, -1), mark("o"), ("jump", "e")])]
        told = [("ab", [NUMBERS]), ("b", [("set", 0, -1), ("jump", "e")]),
                ("c", [STOP, ("table", ["c", "e", "c"]), STOP])]
        for some in itertools.permutations(parts):
            some = list(some)
            before = copy.deepcopy(some)
            self.assertEqual(bound(some), told)
            self.assertEqual(some, before)

    def test_the_kinds_of_what_is_told(self):
        told = bound([("a", [mark("code"), STOP, NUMBERS, TABLE])])
        self.assertIs(type(told), list)
        self.assertIs(type(told[0]), tuple)
        self.assertIs(type(told[0][1]), list)
        for row in told[0][1]:
            self.assertIs(type(row), tuple)
        self.assertIs(type(told[0][1][1][1]), list)
        self.assertIs(type(told[0][1][2][1]), list)

    def test_the_order_of_the_parts_that_are_told(self):
        parts = [(name, [STOP]) for name in ("z", "b", "aa", "a", "abcdefgh", "y", "c")]
        self.assertEqual([name for name, rows in bound(parts)], ["a", "aa", "abcdefgh", "b", "c", "y", "z"])


class TheAskersOwn(Names):
    def test_bound(self):
        numbers = [1, 2]
        words = ["code", "code"]
        parts = [("a", [mark("code"), STOP, ("numbers", numbers), ("table", words)])]
        before = copy.deepcopy(parts)
        right = [("a", [STOP, ("numbers", [1, 2]), ("table", ["code", "code"])])]
        told = bound(parts)
        numbers.append(3)
        words.clear()
        parts[0][1].clear()
        self.assertEqual(told, right)
        parts = copy.deepcopy(before)
        told = bound(parts)
        told[0][1][1][1].clear()
        told[0][1][2][1].append("more")
        told[0][1].clear()
        told.clear()
        self.assertEqual(parts, before)
        self.assertEqual(bound(parts), right)
        self.assertEqual(bound(bound(parts) + [("b", [mark("code"), STOP])]), right + [("b", [STOP])])

    def test_stands(self):
        parts = [("a", [mark("x"), STOP])]
        told = stands(parts)
        parts[0][1].insert(0, STOP)
        self.assertEqual(told, {"x": ("a", 0)})
        self.assertEqual(stands(parts), {"x": ("a", 1)})
        told.clear()
        stands(parts)["y"] = ("a", 0)
        self.assertEqual(stands(parts), {"x": ("a", 1)})


def who_stands(parts, name):
    found = []
    for part, rows in parts:
        for number, row in enumerate(rows):
            if row[0] == "mark" and row[1] == name:
                place = (part, sum(one[0] != "mark" for one in rows[:number]))
                found.append((not row[2], part, number, place))
    return min(found)[3] if found else None


class ManyParts(Names):
    def test_against_a_plain_search(self):
        chance = random.Random(5)
        for turn in range(300):
            strong_left = {name: 1 for name in "xyz"}
            parts = []
            for part in chance.sample("abcdefghijkl", chance.randint(1, 5)):
                rows = []
                for number in range(chance.randint(1, 5)):
                    for name in chance.choices("xyz", k=chance.randint(0, 3)):
                        strong = chance.random() < 0.2 and strong_left[name] == 1
                        strong_left[name] -= strong
                        rows.append(mark(name, strong))
                    rows.append(STOP)
                parts.append((part, rows))
            told = {name: who_stands(parts, name) for name in "xyz"}
            self.assertEqual(stands(parts), {name: place for name, place in told.items() if place is not None})


class Interface(unittest.TestCase):
    def test_the_arguments_have_their_names(self):
        parts = [("a", [mark("x"), STOP])]
        self.assertEqual(stands(parts=parts), {"x": ("a", 0)})
        self.assertEqual(bound(parts=parts), [("a", [STOP])])


if __name__ == "__main__":
    unittest.main()
