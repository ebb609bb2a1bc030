"""Promises 4 to 7, and of promise 2 that what is told is the asker's own."""

import unittest

from farjump import rows
from farjump.rows import CodeRow, DataRow, MarkRow, Row, asked_by, lengths, row_of

LEAST = -2147483648
GREATEST = 2147483647

# Of each kind: a row, the names that it asks for, whether it goes on, its lengths, the class that it stands under.
ROWS = [
    (("mark", "here", True), [], False, (0,), MarkRow),
    (("mark", "here", False), [], False, (0,), MarkRow),
    (("set", 1, -5), [], True, (5,), CodeRow),
    (("add", 0, 3), [], True, (1,), CodeRow),
    (("take", 3, 0), [], True, (1,), CodeRow),
    (("say", 2), [], True, (1,), CodeRow),
    (("ask", 2), [], True, (1,), CodeRow),
    (("jump", "aim"), ["aim"], False, (2, 3), CodeRow),
    (("jumpif", 1, "aim"), ["aim"], True, (2, 3), CodeRow),
    (("call", "aim"), ["aim"], True, (2, 3), CodeRow),
    (("back",), [], False, (1,), CodeRow),
    (("stop",), [], False, (1,), CodeRow),
    (("load", 1, 2, "aim"), ["aim"], True, (2, 3), CodeRow),
    (("jumpby", 1, "aim"), ["aim"], False, (2, 3), CodeRow),
    (("alike", 1, "one", "other"), ["one", "other"], True, (5,), CodeRow),
    (("alike", 1, "z", "a"), ["z", "a"], True, (5,), CodeRow),
    (("alike", 1, "same", "same"), ["same", "same"], True, (5,), CodeRow),
    (("numbers", [7]), [], False, (6,), DataRow),
    (("numbers", [7, 7, -1]), [], False, (14,), DataRow),
    (("numbers", list(range(60))), [], False, (242,), DataRow),
    (("table", ["one"]), ["one"], False, (4,), DataRow),
    (("table", ["z", "a", "z"]), ["z", "a", "z"], False, (8,), DataRow),
    (("table", ["w"] * 60), ["w"] * 60, False, (122,), DataRow),
]
KINDS = ["mark", "set", "add", "take", "say", "ask", "jump", "jumpif", "call", "back", "stop", "load", "jumpby",
         "alike", "numbers", "table"]

# Of each kind: what may stand behind it, by its forms.
FORMS = {
    "mark": ("name", "strong"),
    "set": ("box", "number"),
    "add": ("box", "box"),
    "take": ("box", "box"),
    "say": ("box",),
    "ask": ("box",),
    "jump": ("name",),
    "jumpif": ("box", "name"),
    "call": ("name",),
    "back": (),
    "stop": (),
    "load": ("box", "box", "name"),
    "jumpby": ("box", "name"),
    "alike": ("box", "name", "name"),
    "numbers": ("numbers",),
    "table": ("words",),
}
GOOD = {
    "name": ["a", "z", "abcdefgh"],
    "strong": [True, False],
    "box": [0, 1, 2, 3],
    "number": [LEAST, LEAST + 1, -1, 0, 1, GREATEST - 1, GREATEST],
    "numbers": [[0], [LEAST], [GREATEST], [LEAST, 0, GREATEST], [5] * 59, [5] * 60],
    "words": [["a"], ["abcdefgh"], ["b", "a", "b"], ["w"] * 59, ["w"] * 60],
}
NO_NAMES = ["", "abcdefghi", "Abc", "a b", "a1", "a_", "abc\n", None, True, 0, 25, ["a"], ("a",), b"a"]
NO_NUMBERS = [LEAST - 1, GREATEST + 1, 2 ** 32, -(10 ** 60), 10 ** 60, True, False, None, "0", "a", 1.0, [0], (0,)]
BAD = {
    "name": NO_NAMES,
    "strong": [0, 1, None, "", "True", "strong", [], [True], (True,), 1.0],
    "box": [-1, 4, 5, -4, 2 ** 32, True, False, None, "0", "a", 1.0, [0], (0,)],
    "number": NO_NUMBERS,
    "numbers": [[], [5] * 61, [5] * 200, (1,), (1, 2, 3), 1, None, True, "123", {1: 1}, {1}, range(3), [[1]], ["a"]]
    + [[wrong] for wrong in NO_NUMBERS] + [[1, wrong, 2] for wrong in NO_NUMBERS] + [[1, 2, wrong] for wrong in NO_NUMBERS],
    "words": [[], ["w"] * 61, ["w"] * 200, ("a",), ("a", "b"), "abc", None, True, 1, {"a": 1}, {"a"}, [["a"]]]
    + [[wrong] for wrong in NO_NAMES] + [["a", wrong, "b"] for wrong in NO_NAMES] + [["a", "b", wrong] for wrong in NO_NAMES],
}
SAMPLES = {"name": "aim", "strong": True, "box": 1, "number": 7, "numbers": [1, 2], "words": ["one", "two"]}


def sample(kind):
    return (kind,) + tuple(SAMPLES[form] for form in FORMS[kind])


def with_one(kind, place, thing):
    told = list(sample(kind))
    told[1 + place] = thing
    return tuple(told)


def places():
    return [(kind, place, form) for kind in KINDS for place, form in enumerate(FORMS[kind])]


class WhatIsARow(unittest.TestCase):
    def test_each_kind_is_here(self):
        self.assertEqual(sorted(KINDS), sorted(FORMS))
        self.assertEqual(sorted(set(told[0] for told, *more in ROWS)), sorted(KINDS))

    def test_words_tell_the_tuple_again(self):
        for told, *more in ROWS:
            with self.subTest(told):
                self.assertEqual(row_of(told).words(), told)
                self.assertIsInstance(row_of(told).words(), tuple)

    def test_what_may_stand_at_each_place(self):
        for kind, place, form in places():
            for thing in GOOD[form]:
                told = with_one(kind, place, thing)
                with self.subTest(told):
                    self.assertIsInstance(row_of(told), Row)
                    self.assertEqual(row_of(told).words(), told)

    def test_what_may_not_stand_at_each_place(self):
        for kind, place, form in places():
            for thing in BAD[form]:
                told = with_one(kind, place, thing)
                with self.subTest(told):
                    self.assertIsNone(row_of(told))

    def test_truths_stay_truths_and_numbers_numbers(self):
        for strong in (True, False):
            self.assertIs(row_of(("mark", "a", strong)).words()[2], strong)
        for number in (0, 1):
            self.assertIs(type(row_of(("set", number, number)).words()[1]), int)
            self.assertIs(type(row_of(("set", number, number)).words()[2]), int)

    def test_too_few_parts(self):
        for kind in KINDS:
            told = sample(kind)
            for length in range(len(told)):
                with self.subTest(told[:length]):
                    self.assertIsNone(row_of(told[:length]))

    def test_too_many_parts(self):
        for kind in KINDS:
            for more in [None, 0, 1, True, "a", "", [], [1], ["a"], ()]:
                told = sample(kind) + (more,)
                with self.subTest(told):
                    self.assertIsNone(row_of(told))
                    self.assertIsNone(row_of(told + (more,)))

    def test_a_list_written_out_is_none(self):
        self.assertIsNone(row_of(("numbers", 1, 2)))
        self.assertIsNone(row_of(("table", "a", "b")))

    def test_kinds_that_are_none(self):
        for kind in ["", "Set", "SET", "sub", "goto", "code", "data", "word", "jump ", " jump", "jumpi", "marks", "number",
                     None, True, 0, 1, ("set",), ["set"], {}, {"set": 1}, b"set"]:
            for more in [(), (1,), (1, 2), ("a",), (1, "a"), (1, 2, "a"), (1, "a", "b"), ([1],), (["a"],), ("a", True)]:
                with self.subTest((kind,) + more):
                    self.assertIsNone(row_of((kind,) + more))

    def test_the_kind_stands_ahead(self):
        self.assertIsNone(row_of((0, "say")))
        self.assertIsNone(row_of(("aim", "jump")))
        self.assertIsNone(row_of(("mark", True, "a")))
        self.assertIsNone(row_of(("jumpif", "a", 0)))
        self.assertIsNone(row_of(("load", 0, "a", 0)))
        self.assertIsNone(row_of(("alike", "a", "b", 0)))

    def test_what_is_no_tuple(self):
        for kind in KINDS:
            with self.subTest(kind):
                self.assertIsNone(row_of(list(sample(kind))))
                self.assertIsNone(row_of(row_of(sample(kind))))
                self.assertIsNone(row_of(kind))
        for thing in [None, True, False, 0, 25, "", "stop", "say 0", [], ["stop"], {}, {"stop": 1}, {"stop"}, 1.5, object()]:
            with self.subTest(repr(thing)):
                self.assertIsNone(row_of(thing))

    def test_no_parts_at_all(self):
        self.assertIsNone(row_of(()))


class Classes(unittest.TestCase):
    def test_the_three_stand_under_row_and_none_under_another_one(self):
        three = [MarkRow, CodeRow, DataRow]
        for one in three:
            self.assertTrue(issubclass(one, Row))
            self.assertIsNot(one, Row)
            for other in three:
                self.assertEqual(issubclass(one, other), one is other)

    def test_each_row_is_of_a_class_under_one_of_the_three(self):
        for told, names, on, cells, above in ROWS:
            with self.subTest(told):
                row = row_of(told)
                self.assertEqual([isinstance(row, one) for one in (MarkRow, CodeRow, DataRow)],
                                 [above is one for one in (MarkRow, CodeRow, DataRow)])
                self.assertNotIn(type(row), (Row, CodeRow, DataRow))


class WhatARowTells(unittest.TestCase):
    def test_names_asked_for(self):
        for told, names, *more in ROWS:
            with self.subTest(told):
                self.assertEqual(row_of(told).asked(), names)
                self.assertEqual(asked_by(told), names)
                self.assertIsInstance(row_of(told).asked(), list)
                self.assertIsInstance(asked_by(told), list)

    def test_which_go_on(self):
        for told, names, on, *more in ROWS:
            with self.subTest(told):
                self.assertIs(row_of(told).goes_on(), on)

    def test_lengths(self):
        for told, names, on, cells, above in ROWS:
            with self.subTest(told):
                self.assertEqual(row_of(told).lengths(), cells)
                self.assertEqual(lengths(told), cells)
                self.assertIsInstance(row_of(told).lengths(), tuple)
                self.assertIsInstance(lengths(told), tuple)

    def test_lengths_of_lists_of_each_length(self):
        for count in range(1, 61):
            with self.subTest(count):
                self.assertEqual(lengths(("numbers", [0] * count)), (2 + 4 * count,))
                self.assertEqual(lengths(("table", ["a"] * count)), (2 + 2 * count,))

    def test_rows_by_places_have_places_where_they_had_names(self):
        places = {"aim": 25, "one": 7, "other": 9, "two": ("part", 3)}
        for told, right in [
                (("jump", "aim"), ("jump", 25)), (("jumpif", 2, "aim"), ("jumpif", 2, 25)), (("call", "aim"), ("call", 25)),
                (("load", 0, 1, "aim"), ("load", 0, 1, 25)), (("jumpby", 3, "aim"), ("jumpby", 3, 25)),
                (("alike", 2, "one", "other"), ("alike", 2, 7, 9)), (("alike", 2, "two", "one"), ("alike", 2, ("part", 3), 7)),
                (("table", ["two", "aim", "two"]), ("table", [("part", 3), 25, ("part", 3)]))]:
            with self.subTest(told):
                self.assertEqual(row_of(told).by_places(places), right)
        for told, names, *more in ROWS:
            if names == []:
                self.assertEqual(row_of(told).by_places({}), told)

    def test_names_do_not_hang_on_boxes(self):
        for box in range(4):
            with self.subTest(box):
                self.assertEqual(asked_by(("jumpif", box, "aim")), ["aim"])
                self.assertEqual(asked_by(("jumpby", box, "aim")), ["aim"])
                self.assertEqual(asked_by(("load", 3 - box, box, "aim")), ["aim"])
                self.assertEqual(asked_by(("alike", box, "b", "a")), ["b", "a"])

    def test_the_functions_are_those_of_the_interface(self):
        for name in ("row_of", "lengths", "asked_by"):
            self.assertTrue(callable(getattr(rows, name)))
        self.assertEqual(asked_by(row=("jump", "a")), ["a"])
        self.assertEqual(lengths(row=("jump", "a")), (2, 3))
        self.assertEqual(row_of(thing=("jump", "a")).words(), ("jump", "a"))


class TheAskersOwn(unittest.TestCase):
    def test_the_list_that_was_handed_in_is_not_kept(self):
        for kind, given, more in (("numbers", [1, 2], 3), ("table", ["a", "b"], "c")):
            with self.subTest(kind):
                before = list(given)
                row = row_of((kind, given))
                self.assertEqual(given, before)
                names = row.asked()
                cells = row.lengths()
                given.append(more)
                given[0] = more
                self.assertEqual(row.words(), (kind, before))
                self.assertEqual(row.asked(), names)
                self.assertEqual(row.lengths(), cells)

    def test_the_list_in_the_words_is_a_new_one(self):
        for told in (("numbers", [1, 2]), ("table", ["a", "b"])):
            with self.subTest(told):
                row = row_of(told)
                first = row.words()
                self.assertIsNot(first[1], told[1])
                first[1].clear()
                self.assertEqual(row.words(), told)
                self.assertIsNot(row.words()[1], row.words()[1])
                self.assertEqual(len(told[1]), 2)

    def test_the_list_of_names_is_a_new_one(self):
        for told, names, *more in ROWS:
            with self.subTest(told):
                row = row_of(told)
                first = row.asked()
                first.append("more")
                self.assertEqual(row.asked(), names)
                self.assertEqual(row.words(), told)
                asked_by(told).append("more")
                self.assertEqual(asked_by(told), names)

    def test_what_was_handed_in_stays(self):
        for kind, place, form in places():
            for thing in GOOD[form] + BAD[form]:
                told = with_one(kind, place, thing)
                before = repr(told)
                row_of(told)
                self.assertEqual(repr(told), before)


if __name__ == "__main__":
    unittest.main()
