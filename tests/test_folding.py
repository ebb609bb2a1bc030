"""Promises 34 to 38, and of promise 2 that what is told is the asker's own, and the order of the refusals."""

import copy
import itertools
import random
import unittest

from farjump.errors import NoClasses
from farjump.folding import classes, folded, parts_two
from farjump.names import bound, stands
from farjump.runner import run_names
from tests.helper import BACK, STOP, WRONG_PARTS, Refusals, code_names, in_each_order, mark


class Folds(Refusals):
    def orders(self, parts):
        return in_each_order(parts) if len(parts) <= 3 else [parts, parts[::-1], parts[1:] + parts[:1]]

    def has_classes(self, parts, right):
        for some in self.orders(parts):
            before = copy.deepcopy(some)
            told = classes(some)
            self.assertEqual(told, right)
            self.assertEqual({type(one) for one in told} | {type(told)}, {list})
            self.assertEqual(some, before)
        self.parted(parts, right, None)

    def parted(self, parts, some, right):
        for given in self.orders(parts):
            before = copy.deepcopy((given, some))
            told = parts_two(given, some)
            self.assertEqual(told, right)
            if right is not None:
                self.assertIs(type(told), tuple)
            self.assertEqual((given, some), before)

    def folds(self, parts, some, right):
        for given in self.orders(parts):
            before = copy.deepcopy((given, some))
            told = folded(given, some)
            self.assertEqual(told, right)
            self.assertIs(type(told), list)
            for part in told:
                self.assertEqual((type(part), type(part[1])), (tuple, list))
                self.assertEqual({type(row) for row in part[1]}, {tuple})
            self.assertEqual((given, some), before)


class Alike(Folds):
    def alike(self, one, other, more=()):
        """The rows of two parts, a and b, that are alike."""
        parts = [("a", one), ("b", other)] + list(more)
        told = classes(parts)
        self.assertIn(["a", "b"], told)
        self.has_classes(parts, told)

    def unlike(self, one, other, more=()):
        parts = [("a", one), ("b", other)] + list(more)
        told = classes(parts)
        self.assertIn(["a"], told)
        self.assertIn(["b"], told)
        self.has_classes(parts, told)
        rest = [[name] for name, rows in more]
        self.parted(parts, [["a", "b"]] + rest, ("a", "b"))
        self.refused(NoClasses, folded, (parts, [["a", "b"]] + rest))

    def test_one_part(self):
        self.has_classes([("a", [STOP])], [["a"]])

    def test_the_same_rows(self):
        rows = [("set", 0, -5), ("add", 0, 1), ("take", 2, 3), ("say", 1), ("ask", 2), BACK, STOP, ("numbers", [1, 2, 3])]
        self.alike(rows, copy.deepcopy(rows))

    def test_other_marks(self):
        self.alike([mark("x"), STOP, BACK], [STOP, BACK])
        self.alike([mark("x"), STOP, BACK], [STOP, mark("y", False), mark("z"), BACK])
        self.alike([mark("x"), mark("y"), STOP, BACK], [mark("z"), STOP, BACK])
        self.alike([mark("x"), STOP, BACK], [mark("x", False), STOP, BACK])
        self.alike([mark("x", False), STOP, BACK], [mark("x", False), STOP, BACK])

    def test_other_names_that_stand_at_one_row(self):
        home = ("c", [mark("x"), mark("y"), STOP, mark("n"), mark("m"), ("numbers", [1]), mark("t"), mark("u"), ("table", ["x"])])
        for one, other in [(("jump", "x"), ("jump", "y")), (("call", "x"), ("call", "y")), (("jumpif", 2, "x"), ("jumpif", 2, "y")),
                           (("load", 1, 2, "n"), ("load", 1, 2, "m")), (("jumpby", 1, "t"), ("jumpby", 1, "u")),
                           (("table", ["x", "y", "x"]), ("table", ["y", "x", "x"])),
                           (("alike", 1, "x", "n"), ("alike", 1, "y", "m"))]:
            ends = [] if one[0] in ("jump", "jumpby", "table") else [STOP]
            self.alike([one] + ends, [other] + ends, [home])

    def test_the_same_names(self):
        home = ("c", [mark("x"), STOP, BACK])
        self.alike([("jump", "x")], [("jump", "x")], [home])
        self.alike([STOP, ("table", ["x", "x"])], [STOP, ("table", ["x", "x"])], [home])

    def test_jumps_within_a_part(self):
        self.alike([mark("x"), ("say", 0), ("jump", "x")], [mark("y"), ("say", 0), ("jump", "y")])
        self.alike([("jump", "x"), mark("x"), STOP], [("jump", "y"), mark("y"), STOP])
        self.alike([mark("x"), ("jump", "x")], [mark("y"), ("jump", "y")])

    def test_jumps_into_one_another(self):
        self.alike([mark("x"), ("say", 0), ("jump", "y")], [mark("y"), ("say", 0), ("jump", "x")])
        # One jumps to itself, the other one to it.
        self.alike([mark("x"), ("say", 0), ("jump", "x")], [mark("y"), ("say", 0), ("jump", "x")])
        self.alike([mark("x"), ("say", 0), ("jump", "y")], [mark("y"), ("say", 0), ("jump", "y")])
        self.alike([mark("x"), ("numbers", [1]), ("load", 0, 0, "y"), STOP], [mark("y"), ("numbers", [1]), ("load", 0, 0, "x"), STOP])

    def test_other_words(self):
        pairs = [
            (("set", 0, 1), ("set", 0, 2)), (("set", 0, 1), ("set", 1, 1)), (("set", 0, 1), ("set", 0, -1)),
            (("add", 0, 1), ("add", 0, 2)), (("add", 0, 1), ("add", 1, 1)), (("add", 0, 1), ("take", 0, 1)),
            (("take", 0, 1), ("take", 1, 0)), (("say", 0), ("say", 1)), (("say", 0), ("ask", 0)), (("ask", 2), ("ask", 3)),
            (("jumpif", 0, "x"), ("jumpif", 1, "x")), (("load", 0, 1, "n"), ("load", 0, 0, "n")),
            (("load", 0, 1, "n"), ("load", 1, 1, "n")), (("jumpif", 0, "x"), ("call", "x")), (("call", "x"), ("say", 0)),
            (("alike", 0, "x", "x"), ("alike", 1, "x", "x"))]
        home = ("c", [mark("x"), STOP, mark("n"), ("numbers", [1]), mark("t"), ("table", ["x"])])
        for one, other in pairs:
            self.unlike([one, STOP], [other, STOP], [home])
            self.unlike([STOP, one, STOP], [STOP, other, STOP], [home])
            self.unlike([STOP, one, BACK, STOP], [STOP, other, BACK, STOP], [home])
        last = [STOP, BACK, ("jump", "x"), ("jumpby", 0, "t"), ("jumpby", 1, "t"), ("numbers", [1]), ("numbers", [2]),
                ("numbers", [1, 1]), ("table", ["x"]), ("table", ["x", "x"])]
        for one, other in itertools.permutations(last, 2):
            self.unlike([STOP, one], [STOP, other], [home])

    def test_one_row_more(self):
        self.unlike([STOP], [STOP, STOP])
        self.unlike([STOP, BACK, STOP], [STOP, BACK])
        self.unlike([STOP, BACK], [BACK, STOP])
        self.unlike([STOP, ("numbers", [1])], [STOP, ("numbers", [1]), ("numbers", [1])])

    def test_numbers_that_differ_by_one(self):
        for number in range(3):
            other = [5, 6, 7]
            other[number] += 1
            self.unlike([("numbers", [5, 6, 7])], [("numbers", other)])
        self.unlike([("numbers", [5, 6])], [("numbers", [6, 5])])

    def test_another_number_of_the_aim(self):
        home = ("c", [mark("x"), STOP, mark("y"), STOP, mark("n"), ("numbers", [1]), mark("m"), ("numbers", [1]), mark("t"),
                      ("table", ["x"]), mark("u"), ("table", ["x"])])
        for one, other in [(("jump", "x"), ("jump", "y")), (("call", "x"), ("call", "y")), (("jumpif", 2, "x"), ("jumpif", 2, "y")),
                           (("load", 1, 2, "n"), ("load", 1, 2, "m")), (("jumpby", 1, "t"), ("jumpby", 1, "u")),
                           (("table", ["x", "x", "x"]), ("table", ["x", "x", "y"])), (("table", ["x", "y"]), ("table", ["y", "x"])),
                           (("alike", 1, "x", "y"), ("alike", 1, "y", "x")), (("alike", 1, "x", "y"), ("alike", 1, "x", "x")),
                           (("alike", 1, "x", "y"), ("alike", 1, "n", "y"))]:
            ends = [] if one[0] in ("jump", "jumpby", "table") else [STOP]
            self.unlike([one] + ends, [other] + ends, [home])
        self.unlike([mark("x"), STOP, mark("y"), STOP, ("jump", "x")], [mark("z"), STOP, mark("w"), STOP, ("jump", "w")])

    def test_an_aim_in_another_part(self):
        more = [("c", [mark("x"), STOP, mark("n"), ("numbers", [1]), mark("t"), ("table", ["x"])]),
                ("d", [mark("y"), BACK, mark("m"), ("numbers", [1]), mark("u"), ("table", ["x"])])]
        for one, other in [(("jump", "x"), ("jump", "y")), (("call", "x"), ("call", "y")), (("jumpif", 2, "x"), ("jumpif", 2, "y")),
                           (("load", 1, 2, "n"), ("load", 1, 2, "m")), (("jumpby", 1, "t"), ("jumpby", 1, "u")),
                           (("table", ["x", "x"]), ("table", ["x", "y"])), (("alike", 1, "x", "n"), ("alike", 1, "x", "m"))]:
            ends = [] if one[0] in ("jump", "jumpby", "table") else [STOP]
            self.unlike([one] + ends, [other] + ends, more)

    def test_aims_in_parts_that_are_alike(self):
        more = [("c", [mark("x"), STOP]), ("d", [mark("y"), STOP])]
        self.alike([("jump", "x")], [("jump", "y")], more)
        self.has_classes([("a", [("jump", "x")]), ("b", [("jump", "y")])] + more, [["a", "b"], ["c", "d"]])
        # Where these two are in classes of their own, so have to be the two that aim at them.
        self.parted([("a", [("jump", "x")]), ("b", [("jump", "y")])] + more, [["a", "b"], ["c"], ["d"]], ("a", "b"))

    def test_who_stands_for_a_name_counts(self):
        # The weak marks stand for nothing: both jumps go to the strong one.
        self.alike([("jump", "x"), mark("x", False), STOP], [("jump", "x"), mark("x", False), STOP], [("c", [mark("x"), STOP])])
        # Both go to the weak mark in a, so it is the same place.
        self.alike([("jump", "x"), mark("x", False), STOP], [("jump", "x"), mark("x", False), STOP])
        self.unlike([("jump", "x"), mark("x"), STOP], [("jump", "y"), STOP], [("c", [mark("y"), STOP, STOP])])


class AlikeRows(Folds):
    def test_a_part_with_a_name_of_an_alike_row_is_alone(self):
        twins = [("a", [mark("x"), STOP]), ("b", [mark("y"), STOP]), ("c", [mark("z"), STOP])]
        for name, right in (("x", [["a"], ["b", "c"], ["d"]]), ("y", [["a", "c"], ["b"], ["d"]]), ("z", [["a", "b"], ["c"], ["d"]])):
            for row in (("alike", 0, name, name), ("alike", 3, "d", name), ("alike", 1, name, "d")):
                self.has_classes(twins + [("d", [mark("d"), row, STOP])], right)
        self.has_classes(twins + [("d", [("alike", 0, "x", "z"), STOP])], [["a"], ["b"], ["c"], ["d"]])
        self.has_classes(twins + [("d", [("alike", 0, "y", "x"), STOP])], [["a"], ["b"], ["c"], ["d"]])
        self.has_classes(twins, [["a", "b", "c"]])

    def test_any_row_of_the_part_counts(self):
        twins = [("a", [STOP, mark("n"), ("numbers", [1])]), ("b", [STOP, ("numbers", [1])])]
        self.has_classes(twins, [["a", "b"]])
        self.has_classes(twins + [("c", [("alike", 0, "n", "n"), STOP])], [["a"], ["b"], ["c"]])

    def test_the_mark_that_stands_counts(self):
        twins = [("a", [mark("x", False), STOP]), ("b", [mark("x", False), STOP]), ("c", [mark("x", False), STOP])]
        asks = ("d", [("alike", 0, "x", "x"), STOP])
        self.has_classes(twins + [asks], [["a"], ["b", "c"], ["d"]])
        twins[2] = ("c", [mark("x", True), STOP])
        self.has_classes(twins + [asks], [["a", "b"], ["c"], ["d"]])

    def test_parts_with_alike_rows_may_be_alike(self):
        parts = [("a", [("alike", 0, "x", "y"), STOP]), ("b", [("alike", 0, "x", "y"), STOP]), ("c", [mark("x"), mark("y"), STOP])]
        self.has_classes(parts, [["a", "b"], ["c"]])

    def test_an_alike_row_with_a_name_of_its_own_part(self):
        parts = [("a", [mark("x"), ("alike", 0, "x", "x"), STOP]), ("b", [mark("y"), ("alike", 0, "y", "y"), STOP])]
        self.has_classes(parts, [["a"], ["b"]])
        self.parted(parts, [["a", "b"]], ("a", "b"))
        parts = [("a", [mark("x"), ("alike", 0, "x", "x"), STOP]), ("b", [mark("y"), ("alike", 0, "x", "x"), STOP])]
        self.has_classes(parts, [["a"], ["b"]])
        self.parted(parts, [["a", "b"]], ("a", "b"))

    def test_it_is_told_by_two_also_where_all_else_is_the_same(self):
        twins = [("a", [STOP]), ("b", [mark("x"), STOP]), ("c", [STOP]), ("d", [("alike", 0, "x", "x"), STOP])]
        self.parted(twins, [["a", "b", "c"], ["d"]], ("a", "b"))
        self.parted(twins, [["a", "b"], ["c"], ["d"]], ("a", "b"))
        self.parted(twins, [["a"], ["b", "c"], ["d"]], ("b", "c"))
        self.parted(twins, [["a", "c"], ["b"], ["d"]], None)

    def test_a_run_would_tell(self):
        # The two are the same rows, but the alike row tells them apart: were they folded, it would not.
        parts = [("a", [mark("x"), STOP]), ("b", [mark("y"), STOP]), ("c", [mark("s"), ("alike", 0, "x", "y"), ("say", 0), STOP])]
        self.has_classes(parts, [["a"], ["b"], ["c"]])
        self.assertEqual(run_names(folded(parts, classes(parts)), "s", [], 9), ([0], "stop"))


class Rings(Folds):
    def ring(self, names, say=0):
        return [(name, [mark("x" + name), ("say", say), ("jump", "x" + other)]) for name, other in zip(names, names[1:] + names[:1])]

    def test_a_ring_is_one_class(self):
        for count in range(1, 13):
            names = "abcdefghijkl"[:count]
            self.has_classes(self.ring(names), [list(names)])
            self.has_classes(self.ring(names[::2] + names[1::2]), [list(names)])

    def test_a_ring_with_one_other_part(self):
        for other in "abcdef":
            parts = self.ring("abcdef")
            parts["abcdef".index(other)][1][1] = ("say", 1)
            # Each one jumps to a part that is another number of jumps away from the other one.
            self.has_classes(parts, [["a"], ["b"], ["c"], ["d"], ["e"], ["f"]])

    def test_a_ring_of_two_kinds(self):
        parts = self.ring("abcdef")
        for number in (1, 3, 5):
            parts[number][1][1] = ("say", 1)
        self.has_classes(parts, [["a", "c", "e"], ["b", "d", "f"]])

    def test_two_rings(self):
        self.has_classes(self.ring("ace") + self.ring("bdfg"), [list("abcdefg")])
        self.has_classes(self.ring("ace") + self.ring("bdfg", 1), [list("ace"), list("bdfg")])

    def test_a_chain_has_no_two_alike(self):
        names = "abcdefghijkl"
        parts = [(name, [mark("x" + name), ("say", 0), ("jump", "x" + other)]) for name, other in zip(names, names[1:])]
        parts.append(("l", [mark("xl"), ("say", 0), STOP]))
        self.has_classes(parts, [[name] for name in names])
        # The last one jumps to itself: now all are.
        parts[-1] = ("l", [mark("xl"), ("say", 0), ("jump", "xl")])
        self.has_classes(parts, [list(names)])

    def test_two_chains(self):
        parts = [("a", [("jump", "c")]), ("b", [("jump", "d")]), ("c", [mark("c"), ("call", "e"), STOP]),
                 ("d", [mark("d"), ("call", "f"), STOP]), ("e", [mark("e"), BACK]), ("f", [mark("f"), BACK])]
        self.has_classes(parts, [["a", "b"], ["c", "d"], ["e", "f"]])
        parts[-1] = ("f", [mark("f"), STOP])
        self.has_classes(parts, [["a"], ["b"], ["c"], ["d"], ["e"], ["f"]])


class WhatPartsTwo(Folds):
    def test_classes_that_are_not_as_coarse_as_can_be(self):
        parts = Rings().ring("abcd")
        for some in ([["a"], ["b"], ["c"], ["d"]], [["a", "c"], ["b", "d"]], [["a", "b", "c", "d"]]):
            self.parted(parts, some, None)
        for some in ([["a", "b"], ["c"], ["d"]], [["a", "b"], ["c", "d"]], [["a", "b", "c"], ["d"]], [["a", "d"], ["b", "c"]]):
            self.assertIsNotNone(parts_two(parts, some))

    def test_each_part_in_a_class_of_its_own(self):
        chance = random.Random(34)
        for turn in range(50):
            parts = any_parts(chance)
            self.parted(parts, [[name] for name in sorted(part[0] for part in parts)], None)

    def test_the_first_two(self):
        parts = [(name, [("set", 0, number), STOP]) for name, number in zip("abcdef", (1, 1, 2, 2, 3, 1))]
        self.parted(parts, [list("abcdef")], ("a", "c"))
        self.parted(parts, [list("abf"), list("cd"), ["e"]], None)
        self.parted(parts, [list("abf"), list("cde")], ("c", "e"))
        self.parted(parts, [list("ab"), list("cd"), list("ef")], ("e", "f"))
        self.parted(parts, [list("ab"), list("ce"), list("df")], ("c", "e"))
        self.parted(parts, [list("ab"), list("cf"), list("de")], ("c", "f"))
        self.parted(parts, [list("af"), list("be"), list("cd")], ("b", "e"))
        self.parted(parts, [list("abe"), list("cd"), ["f"]], ("a", "e"))
        self.parted(parts, [list("acd"), list("bf"), ["e"]], ("a", "c"))
        self.parted(parts, [["a"], list("bcdef")], ("b", "c"))
        self.parted(parts, [["a"], ["b"], list("cdef")], ("c", "e"))

    def test_two_are_looked_at_by_the_classes_as_they_are_told(self):
        # a and b jump to c and d, which are not alike: by the classes told, a and b are, and c and d are told.
        parts = [("a", [("jump", "c")]), ("b", [("jump", "d")]), ("c", [mark("c"), STOP]), ("d", [mark("d"), BACK])]
        self.parted(parts, [["a", "b"], ["c", "d"]], ("c", "d"))
        self.parted(parts, [["a", "b"], ["c"], ["d"]], ("a", "b"))
        self.parted(parts, [["a"], ["b"], ["c", "d"]], ("c", "d"))


class Kept(Folds):
    def test_two_parts_folded(self):
        parts = [("b", [mark("y"), ("say", 0), mark("z", False), ("jump", "y")]),
                 ("a", [mark("x", False), ("say", 0), ("jump", "x")])]
        self.folds(parts, [["a", "b"]], [
            ("a", [mark("x"), mark("y"), ("say", 0), mark("z"), ("jump", "x")])])
        self.folds(parts, [["a"], ["b"]], [
            ("a", [mark("x"), ("say", 0), ("jump", "x")]), ("b", [mark("y"), ("say", 0), mark("z"), ("jump", "y")])])

    def test_marks_that_stand_for_nothing_are_left_out(self):
        parts = [("a", [mark("x", False), STOP, mark("y", False), BACK]), ("b", [mark("x"), STOP, mark("y", False), BACK]),
                 ("c", [mark("y", False), mark("x", False), STOP])]
        self.folds(parts, [["a"], ["b"], ["c"]], [("a", [STOP, mark("y"), BACK]), ("b", [mark("x"), STOP, BACK]), ("c", [STOP])])
        self.folds(parts, [["a", "b"], ["c"]], [("a", [mark("x"), STOP, mark("y"), BACK]), ("c", [STOP])])

    def test_a_name_marked_twice_in_a_part(self):
        parts = [("a", [mark("x", False), STOP, mark("x", False), BACK])]
        self.folds(parts, [["a"]], [("a", [mark("x"), STOP, BACK])])
        parts = [("a", [mark("x", False), STOP, mark("x", True), BACK])]
        self.folds(parts, [["a"]], [("a", [STOP, mark("x"), BACK])])
        parts = [("a", [mark("x", False), mark("x", False), mark("x"), STOP])]
        self.folds(parts, [["a"]], [("a", [mark("x"), STOP])])

    def test_marks_are_sorted(self):
        names = ["q", "b", "aa", "z", "a", "ab", "m"]
        parts = [("a", [mark(name) for name in names[:3]] + [STOP]), ("b", [mark(name, False) for name in names[3:5]] + [STOP]),
                 ("c", [mark(name) for name in names[5:]] + [STOP])]
        self.folds(parts, [["a", "b", "c"]], [("a", [mark(name) for name in sorted(names)] + [STOP])])

    def test_rows_of_each_kind(self):
        rows = [("set", 0, -5), ("add", 0, 1), ("take", 2, 3), ("say", 1), ("ask", 2), ("jumpif", 0, "x"), ("call", "x"),
                ("load", 0, 1, "n"), ("alike", 3, "x", "n"), BACK, STOP, ("jump", "x"), ("jumpby", 1, "t"),
                ("numbers", [1, -2, 3]), ("table", ["x", "y"])]
        data = ("c", [mark("x"), mark("y"), STOP, mark("n"), ("numbers", [7]), mark("t"), ("table", ["y"])])
        self.folds([("b", rows), ("a", copy.deepcopy(rows)), data], [["a", "b"], ["c"]], [("a", rows), data])

    def test_the_kept_parts_own_names_stay_in_its_rows(self):
        parts = [("a", [mark("x"), ("say", 0), ("jump", "y")]), ("b", [mark("y"), ("say", 0), ("jump", "x")])]
        self.folds(parts, [["a", "b"]], [("a", [mark("x"), mark("y"), ("say", 0), ("jump", "y")])])

    def test_parts_are_told_by_their_names(self):
        parts = [("d", [mark("d"), STOP]), ("b", [BACK]), ("c", [mark("c"), STOP]), ("ab", [BACK]), ("a", [STOP, STOP])]
        self.folds(parts, [["a"], ["ab", "b"], ["c", "d"]], [("a", [STOP, STOP]), ("ab", [BACK]), ("c", [mark("c"), mark("d"), STOP])])

    def test_by_any_classes_of_which_nothing_parts_two(self):
        parts = Rings().ring("abcd")
        say, marks = ("say", 0), [mark("x" + name) for name in "abcd"]
        self.folds(parts, [["a", "c"], ["b", "d"]], [
            ("a", [marks[0], marks[2], say, ("jump", "xb")]), ("b", [marks[1], marks[3], say, ("jump", "xc")])])
        self.folds(parts, [["a", "b", "c", "d"]], [("a", marks + [say, ("jump", "xb")])])

    def test_the_most_marks_rows_and_parts(self):
        names = [one + other for one in "abcdefghij" for other in "abcdefghijklmnopqrst"]
        parts = [(part, [mark(name, False) for name in names[k::10]] + [STOP] * 20) for k, part in enumerate("abcdefghij")]
        self.assertEqual(len(names), 200)
        self.folds(parts, [list("abcdefghij")], [("a", [mark(name) for name in sorted(names)] + [STOP] * 20)])
        self.folds(parts, [[name] for name in "abcdefghij"], [
            (part, [mark(name) for name in sorted(names[k::10])] + [STOP] * 20) for k, part in enumerate("abcdefghij")])


# The same words, reckoned another way: each part's rows with blanks where the names stand, and the names by themselves.
def aims_of(row):
    if row[0] in ("jump", "jumpif", "call", "load", "jumpby"):
        return [row[-1]]
    return list(row[2:]) if row[0] == "alike" else list(row[1]) if row[0] == "table" else []


def without_names(row):
    if row[0] in ("jump", "jumpif", "call", "load", "jumpby"):
        return row[:-1]
    return row[:2] if row[0] == "alike" else ("table", len(row[1])) if row[0] == "table" else row


def are_alike(rows_of, places, some, one, other):
    if len(rows_of[one]) != len(rows_of[other]):
        return False
    for names in [aims_of(row) for rows in rows_of.values() for row in rows if row[0] == "alike"]:
        if {places[name][0] for name in names} & {one, other}:
            return False
    for first, second in zip(rows_of[one], rows_of[other]):
        if without_names(first) != without_names(second):
            return False
        for name, second_name in zip(aims_of(first), aims_of(second)):
            place, second_place = places[name], places[second_name]
            if place[1] != second_place[1]:
                return False
            if not any(place[0] in group and second_place[0] in group for group in some):
                return False
    return True


def first_unlike(parts, some):
    rows_of, places = dict(bound(parts)), stands(parts)
    for one, other in itertools.combinations(sorted(rows_of), 2):
        if any(one in group and other in group for group in some) and not are_alike(rows_of, places, some, one, other):
            return (one, other)
    return None


def all_classes(names):
    """All ways to put the names, which are sorted, in classes."""
    if not names:
        yield []
        return
    for some in all_classes(names[1:]):
        yield [[names[0]]] + some
        for number in range(len(some)):
            yield sorted(some[:number] + [[names[0]] + some[number]] + some[number + 1:])


def any_parts(chance, most=5):
    """Parts of few forms, so that many are alike, with aims at one another: which parts they aim at hangs on chance."""
    chosen = chance.sample("abcdefghijkl", chance.randint(1, most))
    seeds = [chance.random() for number in range(chance.randint(1, 2))]
    asks_alike = chance.random() < 0.2
    parts = []
    for part in chosen:
        form = random.Random(chance.choice(seeds))

        def aim(letters):
            return form.choice(letters) + chance.choice(chosen)

        rows = [mark("x" + part), form.choice([("ask", 0), ("set", 0, 1)]), ("say", 0), mark("y" + part), mark("v", False)]
        rows.append(form.choice([("jump", aim("xy")), ("call", aim("xy")), ("load", 1, 2, aim("n")), ("jumpby", 1, aim("t"))]))
        if form.random() < 0.4:
            rows.append(("jumpif", 0, aim("xy")))
        rows.append(form.choice([STOP, BACK, ("jump", aim("xy"))]))
        rows += [mark("n" + part), ("numbers", [3, chance.choice([4] * 15 + [5])])]
        rows += [mark("t" + part), ("table", [aim("xy") for number in range(form.randint(1, 2))])]
        if asks_alike and chance.random() < 0.3:
            rows += [mark("z" + part), ("alike", 1, aim("xyn"), aim("xyn")), ("jump", aim("y"))]
        parts.append((part, rows))
    return parts


class AgainstAllClasses(Folds):
    def test_what_parts_two_and_the_coarsest_classes(self):
        chance = random.Random(36)
        seen = {}
        for turn in range(120):
            parts = any_parts(chance)
            names = sorted(part[0] for part in parts)
            told = classes(parts)
            for some in all_classes(names):
                right = first_unlike(parts, some)
                self.assertEqual(parts_two(parts, some), right)
                if right is None:
                    for group in some:
                        self.assertTrue(any(set(group) <= set(one) for one in told), (some, told))
            self.assertIsNone(first_unlike(parts, told))
            self.assertIn(told, list(all_classes(names)))
            seen[len(names), len(told)] = True
        self.assertGreaterEqual(len(seen), 10)

    def test_many_parts(self):
        chance = random.Random(37)
        for turn in range(60):
            parts = any_parts(chance, 12)
            told = classes(parts)
            self.assertIsNone(first_unlike(parts, told))
            self.has_classes(parts, told)


class Runs(Folds):
    def same_runs(self, parts, fold, chance):
        self.assertEqual(sorted(stands(fold)), sorted(stands(parts)))
        for start in code_names(parts):
            inputs = [chance.randint(-1, 2) for number in range(chance.randint(0, 5))]
            for steps in (0, 1, 7, 100):
                self.assertEqual(run_names(fold, start, inputs, steps), run_names(parts, start, inputs, steps))

    def test_runs_are_the_same_by_the_coarsest_classes(self):
        chance = random.Random(38)
        fewer = 0
        for turn in range(150):
            parts = any_parts(chance, 8)
            some = classes(parts)
            fold = folded(parts, some)
            fewer += len(fold) < len(parts)
            self.same_runs(parts, fold, chance)
            # Folded once more, nothing is left to fold.
            self.assertEqual(classes(fold), [[part[0]] for part in fold])
            self.assertEqual(folded(fold, classes(fold)), fold)
        self.assertGreater(fewer, 50)

    def test_runs_are_the_same_by_any_classes(self):
        chance = random.Random(39)
        for turn in range(25):
            parts = any_parts(chance, 4)
            for some in all_classes(sorted(part[0] for part in parts)):
                if first_unlike(parts, some) is None:
                    self.same_runs(parts, folded(parts, some), chance)
                else:
                    self.refused(NoClasses, folded, (parts, some))

    def test_calls_come_back(self):
        parts = [("a", [mark("x"), ("call", "f"), ("say", 0), STOP]), ("b", [mark("y"), ("call", "g"), ("say", 0), STOP]),
                 ("f", [mark("f"), ("set", 0, 3), BACK]), ("g", [mark("g"), ("set", 0, 3), BACK])]
        self.has_classes(parts, [["a", "b"], ["f", "g"]])
        fold = folded(parts, classes(parts))
        self.assertEqual(len(fold), 2)
        for start in "xyfg":
            self.assertEqual(run_names(fold, start, [], 50), run_names(parts, start, [], 50))


class Refused(Folds):
    parts = [("c", [STOP]), ("a", [mark("x"), STOP]), ("b", [STOP]), ("d", [BACK])]

    no_classes = [
        None, True, 0, "", "abcd", (), {}, ("abcd",), {"a": ["a", "b", "c", "d"]},
        [], [[]], [["a"]], [["a", "b"]], [["a", "b", "c"]], [["b", "c"], ["d"]], [["a"], ["b"], ["c"]], [["a"], ["b"], ["d"]],
        [["a", "b", "c"], ["d"], ["e"]], [["a", "b", "c", "e"], ["d"]], [["a"], ["b"], ["c"], ["d"], ["x"]], [["a", "b", "e"], ["d"]],
        [["a", "b", "x"], ["d"]],
        [["a", "b", "c"], ["c"], ["d"]], [["a", "a", "b", "c"], ["d"]], [["a", "b", "c", "c"], ["d"]], [["a", "b"], ["b", "c"], ["d"]],
        [["a", "b", "c"], ["d"], ["d"]], [["a", "a", "b"], ["d"]], [["a", "b"], ["a", "d"]], [["a", "b"], ["b", "d"]],
        [["a", "b", "c"], [], ["d"]], [["a", "b", "c"], ["d"], []], [[], ["a", "b", "c"], ["d"]], [[], [], [], []],
        [["b", "a", "c"], ["d"]], [["a", "c", "b"], ["d"]], [["c", "b", "a"], ["d"]], [["a"], ["c", "b"], ["d"]],
        [["d"], ["a", "b", "c"]], [["b"], ["a"], ["c"], ["d"]], [["b", "c"], ["a"], ["d"]], [["a"], ["b"], ["d"], ["c"]],
        [["c", "d"], ["a", "b"]], [["b", "d"], ["a", "c"]], [["d"], ["c"], ["b"], ["a"]],
        [("a", "b", "c"), ("d",)], [["a", "b", "c"], ("d",)], [["a", "b", "c"], "d"], ["abc", "d"], ["a", "b", "c", "d"],
        (["a", "b", "c"], ["d"]), [["a", "b", "c"], None], [["a", "b", "c"], {"d": 1}], [["a", "b", "c"], 4],
        [["a", "b", "c"], [None]], [["a", "b", "c"], [4]], [["a", "b", "c"], [["d"]]], [["a", "b", "c"], [("d",)]],
        [["a", "b", 1], ["d"]], [[1, 2, 3, 4]], [[None, "a"], ["b"], ["c"]], [["a", "b", []], ["d"]], [["a", "b", "c"], ["D"]],
        [["a", "b", "c"], [""]], [["a", "b", "c"], ["d", None]], [["a", "b", "c"], ["d", 1]], [["a", "b", {}], ["d"]]]

    def test_classes_that_are_some(self):
        for some in ([["a", "b", "c"], ["d"]], [["a"], ["b"], ["c"], ["d"]], [["a", "c"], ["b"], ["d"]], [["a"], ["b", "c"], ["d"]]):
            self.parted(self.parts, some, None)
            self.assertEqual([part[0] for part in folded(self.parts, some)], [one[0] for one in some])

    def test_what_are_no_classes(self):
        for some in self.no_classes:
            with self.subTest(repr(some)):
                for parts in (self.parts, self.parts[::-1], sorted(self.parts)):
                    self.refused(NoClasses, parts_two, (parts, some))
                    self.refused(NoClasses, folded, (parts, some))

    def test_the_names_are_the_parts_and_no_others(self):
        parts = [("a", [mark("b"), STOP])]
        self.parted(parts, [["a"]], None)
        for some in ([["b"]], [["a"], ["b"]], [["a", "b"]], []):
            self.refused(NoClasses, parts_two, (parts, some))

    def test_folded_where_two_are_parted(self):
        for some in ([["a", "b", "c", "d"]], [["a", "d"], ["b", "c"]], [["a"], ["b"], ["c", "d"]], [["a", "b"], ["c", "d"]]):
            self.assertIsNotNone(parts_two(self.parts, some))
            self.refused(NoClasses, folded, (self.parts, some))

    def test_what_is_wrong_with_the_parts_goes_ahead(self):
        for error, parts, fields in WRONG_PARTS:
            self.assertEqual(self.refused(error, classes, (parts,)), fields)
            for some in self.no_classes + [[["a"]], [["a", "b", "c"], ["d"]]]:
                self.assertEqual(self.refused(error, parts_two, (parts, some)), fields)
                self.assertEqual(self.refused(error, folded, (parts, some)), fields)


class TheAskersOwn(Folds):
    def test_classes(self):
        parts = [("a", [STOP]), ("b", [STOP]), ("c", [BACK])]
        told = classes(parts)
        told[0].append("z")
        told.pop()
        self.assertEqual(classes(parts), [["a", "b"], ["c"]])
        told = classes(parts)
        parts[1][1][0] = BACK
        self.assertEqual(told, [["a", "b"], ["c"]])
        self.assertEqual(classes(parts), [["a"], ["b", "c"]])

    def test_folded_parts(self):
        parts = [("a", [mark("x"), ("numbers", [1]), ("table", ["y"]), mark("y"), STOP]), ("b", [mark("z"), STOP])]
        some = [["a"], ["b"]]
        right = [("a", [mark("x"), ("numbers", [1]), ("table", ["y"]), mark("y"), STOP]), ("b", [mark("z"), STOP])]
        told = folded(parts, some)
        told[0][1][1][1].append(2)
        told[0][1][2][1][0] = "q"
        told[1][1].clear()
        told.append(("c", []))
        self.assertEqual(parts, right)
        self.assertEqual(some, [["a"], ["b"]])
        self.assertEqual(folded(parts, some), right)
        told = folded(parts, some)
        parts[0][1][1][1].append(2)
        parts[0][1][2][1][0] = "z"
        some[0].append("q")
        self.assertEqual(told, right)


class Interface(unittest.TestCase):
    def test_the_arguments_have_their_names(self):
        parts = [("a", [STOP])]
        self.assertEqual(classes(parts=parts), [["a"]])
        self.assertIsNone(parts_two(parts=parts, some=[["a"]]))
        self.assertEqual(folded(parts=parts, some=[["a"]]), parts)


if __name__ == "__main__":
    unittest.main()
