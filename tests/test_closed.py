"""Promises 29 to 33, and of promise 2 that what is told is the asker's own, and the order of the refusals."""

import copy
import itertools
import random
import unittest

from farjump.closed import leads_out, needed, only
from farjump.errors import NoStart
from farjump.names import bound, stands
from farjump.runner import run_names
from tests.helper import STOP, WRONG_PARTS, Refusals, in_each_order, mark

NO_WORDS = ["", "A", "Start", "start ", "a1", "ninenines", None, 0, 1, True, False, [], ["s"], ("s",), {}, {"s": 1}, 7]


def aiming(name):
    """Each row that may ask for a code name, with what has to stand behind it."""
    return [[("jump", name)], [("jumpif", 0, name), STOP], [("call", name), STOP], [("alike", 0, name, name), STOP],
            [STOP, ("table", [name])]]


class Closed(Refusals):
    def needs(self, parts, start, right):
        for some in in_each_order(parts) if len(parts) <= 4 else (parts, parts[::-1]):
            before = copy.deepcopy(some)
            told = needed(some, start)
            self.assertEqual(told, right)
            self.assertIs(type(told), list)
            self.assertEqual(some, before)

    def leads(self, parts, start, listed, right):
        for some in (parts, parts[::-1], parts[1:] + parts[:1]):
            for names in (listed, listed[::-1], listed + listed, ["none", ""] + listed + ["none", "nopart"]):
                before = copy.deepcopy((some, names))
                told = leads_out(some, start, names)
                self.assertEqual(told, right, names)
                if right is not None:
                    self.assertIs(type(told), tuple)
                self.assertEqual((some, names), before)


class Needed(Closed):
    def test_the_starts_own_part_alone(self):
        self.needs([("p", [mark("s"), STOP])], "s", ["p"])
        self.needs([("p", [mark("s"), STOP]), ("q", [STOP]), ("a", [mark("t"), STOP])], "s", ["p"])
        self.needs([("p", [mark("s"), ("jump", "s")]), ("q", [STOP])], "s", ["p"])

    def test_each_row_that_asks_for_a_name(self):
        for rows in aiming("x"):
            parts = [("p", [mark("s")] + rows), ("b", [mark("x"), STOP]), ("c", [mark("y"), STOP])]
            self.needs(parts, "s", ["b", "p"])
            self.needs(parts, "x", ["b"])
            self.needs(parts, "y", ["c"])

    def test_load_and_jumpby(self):
        parts = [("p", [mark("s"), ("load", 0, 1, "n"), STOP]), ("n", [mark("n"), ("numbers", [1])]), ("q", [STOP])]
        self.needs(parts, "s", ["n", "p"])
        parts = [("p", [mark("s"), ("jumpby", 0, "t")]), ("n", [mark("t"), ("table", ["x", "y"])]), ("q", [mark("y"), STOP]),
                 ("r", [mark("x"), STOP])]
        self.needs(parts, "s", ["n", "p", "q", "r"])

    def test_both_names_of_an_alike(self):
        for one, other in itertools.permutations(["x", "y"]):
            parts = [("p", [mark("s"), ("alike", 0, one, other), STOP]), ("b", [mark("x"), STOP]), ("c", [mark("y"), ("numbers", [1])])]
            self.needs(parts, "s", ["b", "c", "p"])
        self.needs([("p", [mark("s"), ("alike", 0, "s", "y"), STOP]), ("c", [mark("y"), STOP]), ("d", [STOP])], "s", ["c", "p"])

    def test_each_word_of_a_table(self):
        for number in range(5):
            words = ["s"] * 5
            words[number] = "x"
            parts = [("p", [mark("s"), STOP, ("table", words)]), ("b", [mark("x"), STOP]), ("c", [STOP])]
            self.needs(parts, "s", ["b", "p"])

    def test_rows_that_no_run_comes_to_ask_too(self):
        parts = [("p", [mark("s"), STOP, STOP, ("jump", "x")]), ("b", [mark("x"), STOP]), ("c", [STOP])]
        self.needs(parts, "s", ["b", "p"])
        # Also those ahead of the start's row.
        parts = [("p", [("jump", "x"), mark("s"), STOP]), ("b", [mark("x"), STOP]), ("c", [STOP])]
        self.needs(parts, "s", ["b", "p"])

    def test_a_long_chain(self):
        names = "abcdefghijkl"
        parts = [(name, [mark("x" + name), ("jump", "x" + other)]) for name, other in zip(names, names[1:] + "l")]
        for number, name in enumerate(names):
            self.needs(parts, "x" + name, list(names[number:]))
        parts = [(name, [mark("x" + name), ("jump", "x" + other)]) for name, other in zip(names, "a" + names)]
        for number, name in enumerate(names):
            self.needs(parts, "x" + name, list(names[:number + 1]))

    def test_a_ring(self):
        names = "dbface"
        parts = [(name, [mark("x" + name), ("call", "x" + other), STOP]) for name, other in zip(names, names[1:] + names[:1])]
        parts.append(("z", [mark("z"), ("jump", "xa")]))
        for name in names:
            self.needs(parts, "x" + name, sorted(names))
        self.needs(parts, "z", sorted(names + "z"))

    def test_two_rings(self):
        parts = [("a", [mark("a"), ("jump", "b")]), ("b", [mark("b"), ("jump", "a")]),
                 ("c", [mark("c"), ("jump", "d")]), ("d", [mark("d"), ("jump", "c")])]
        for start in "ab":
            self.needs(parts, start, ["a", "b"])
        for start in "cd":
            self.needs(parts, start, ["c", "d"])

    def test_a_name_with_marks_in_several_parts(self):
        ask = ("p", [mark("s"), ("jump", "x")])
        weak = [("c", [mark("x", False), STOP]), ("b", [mark("x", False), STOP])]
        self.needs([ask] + weak, "s", ["b", "p"])
        self.needs([ask] + weak + [("d", [mark("x"), STOP])], "s", ["d", "p"])
        self.needs([("p", [mark("s"), ("jump", "x"), mark("x", False), STOP])] + weak, "s", ["b", "p"])
        self.needs([("p", [mark("s"), ("jump", "x"), mark("x", True), STOP])] + weak, "s", ["p"])
        self.needs([("a", [mark("s"), ("jump", "x"), mark("x", False), STOP])] + weak, "s", ["a"])

    def test_a_start_with_marks_in_several_parts(self):
        parts = [("c", [mark("s", False), ("jump", "z")]), ("b", [mark("s", False), ("jump", "y")]), ("y", [mark("y"), STOP]),
                 ("z", [mark("z"), STOP])]
        self.needs(parts, "s", ["b", "y"])
        parts[0] = ("c", [mark("s", True), ("jump", "z")])
        self.needs(parts, "s", ["c", "z"])

    def test_names_are_not_parts_names(self):
        # The name "b" stands in the part "c", the name "c" in the part "b".
        parts = [("a", [mark("s"), ("jump", "b")]), ("b", [mark("c"), STOP]), ("c", [mark("b"), STOP])]
        self.needs(parts, "s", ["a", "c"])
        self.needs(parts, "c", ["b"])


class LeadsOut(Closed):
    parts = [("m", [mark("s"), ("jumpif", 0, "c"), ("alike", 1, "b", "e"), ("jump", "m")]),
             ("d", [mark("b"), ("call", "c"), mark("d"), STOP, ("table", ["m", "c", "d"])]),
             ("c", [mark("c"), ("jump", "e")]),
             ("e", [mark("e"), mark("m"), STOP]),
             ("f", [mark("f"), ("jump", "s")])]

    def test_closed_lists(self):
        self.leads(self.parts, "s", ["m", "d", "c", "e"], None)
        self.leads(self.parts, "s", ["m", "d", "c", "e", "f"], None)
        self.leads(self.parts, "e", ["e"], None)
        self.leads(self.parts, "c", ["c", "e"], None)
        self.leads(self.parts, "m", ["e"], None)
        self.leads(self.parts, "f", ["m", "d", "c", "e", "f"], None)

    def test_parts_more_than_needed_have_to_be_closed_too(self):
        self.leads(self.parts, "e", ["e", "c"], None)
        self.leads(self.parts, "e", ["e", "f"], ("f", "s"))
        self.leads(self.parts, "e", ["e", "d"], ("d", "c"))

    def test_the_starts_own_part_goes_first(self):
        for some in ([], ["d"], ["d", "c", "e", "f"], ["f"], ["s"], ["b", "a"]):
            self.leads(self.parts, "s", some, (None, "s"))
        self.leads(self.parts, "m", ["m"], (None, "m"))
        self.leads(self.parts, "m", ["m", "d", "c", "f"], (None, "m"))
        self.leads(self.parts, "f", ["m", "d", "c", "e"], (None, "f"))

    def test_the_first_part_by_name(self):
        self.leads(self.parts, "s", ["m", "c"], ("c", "e"))
        self.leads(self.parts, "s", ["m", "d"], ("d", "c"))
        self.leads(self.parts, "s", ["m", "d", "c"], ("c", "e"))
        self.leads(self.parts, "s", ["m", "d", "e"], ("d", "c"))
        self.leads(self.parts, "s", ["m", "e"], ("m", "c"))
        self.leads(self.parts, "s", ["m", "c", "e"], ("m", "b"))
        self.leads(self.parts, "f", ["f", "m"], ("m", "c"))
        self.leads(self.parts, "f", ["f"], ("f", "s"))

    def test_the_first_name_in_the_rows_order(self):
        rows = [mark("s"), ("jumpif", 0, "z"), ("alike", 0, "y", "x"), ("call", "w"), ("load", 0, 0, "n"), ("jumpby", 0, "t"),
                ("table", ["v", "u"]), ("jump", "r")]
        asked = ["z", "y", "x", "w", "n", "t", "v", "u", "r"]
        homes = {"n": ("numbers", [1]), "t": ("table", ["s"])}
        parts = [("a", rows)] + [("p" + name, [mark(name), homes.get(name, STOP)]) for name in asked]
        for first, name in enumerate(asked):
            for gone in ([name], asked[first:], [name, asked[-1]]):
                some = ["a"] + ["p" + one for one in asked if one not in gone]
                self.leads(parts, "s", some, ("a", name))
        self.leads(parts, "s", ["a"] + ["p" + one for one in asked], None)

    def test_in_a_row_the_order_of_its_words(self):
        parts = [("a", [mark("s"), STOP, ("table", ["s", "y", "x", "y", "z"])]), ("p", [mark("x"), STOP]), ("q", [mark("y"), STOP]),
                 ("r", [mark("z"), STOP])]
        self.leads(parts, "s", ["a"], ("a", "y"))
        self.leads(parts, "s", ["a", "q"], ("a", "x"))
        self.leads(parts, "s", ["a", "q", "p"], ("a", "z"))
        self.leads(parts, "s", ["a", "p", "r"], ("a", "y"))
        parts = [("a", [mark("s"), ("alike", 0, "y", "x"), STOP]), ("p", [mark("x"), STOP]), ("q", [mark("y"), STOP])]
        self.leads(parts, "s", ["a"], ("a", "y"))
        self.leads(parts, "s", ["a", "q"], ("a", "x"))
        self.leads(parts, "s", ["a", "p"], ("a", "y"))

    def test_the_part_at_which_a_name_stands_counts(self):
        parts = [("a", [mark("s"), ("jump", "x")]), ("b", [mark("x", False), STOP]), ("c", [mark("x", False), STOP])]
        self.leads(parts, "s", ["a", "b"], None)
        self.leads(parts, "s", ["a", "c"], ("a", "x"))
        parts[2] = ("c", [mark("x", True), STOP])
        self.leads(parts, "s", ["a", "b"], ("a", "x"))
        self.leads(parts, "s", ["a", "c"], None)

    def test_the_empty_list(self):
        self.assertEqual(leads_out(self.parts, "s", []), (None, "s"))
        self.assertEqual(leads_out(self.parts, "f", ["nothing", "nothing"]), (None, "f"))

    def test_names_that_are_no_parts(self):
        for more in (["none"], ["s", "b"], ["", "M", "toolongaword"], ["m", "m"], ["none", "none"]):
            for at in range(5):
                some = ["m", "d", "c", "e"]
                some[at:at] = more
                self.assertIsNone(leads_out(self.parts, "s", some))
                some.remove("e")
                self.assertEqual(leads_out(self.parts, "s", some), ("c", "e"))


class Only(Closed):
    parts = [("c", [mark("x"), STOP]), ("a", [("numbers", [1, 2]), mark("y", False), ("table", ["x"])]), ("b", [STOP])]

    def alone(self, parts, some, right):
        before = copy.deepcopy((parts, some))
        told = only(parts, some)
        self.assertEqual(told, right)
        self.assertIs(type(told), list)
        self.assertEqual((parts, some), before)

    def test_in_the_lists_order(self):
        for parts in in_each_order(self.parts):
            for count in range(4):
                for some in itertools.permutations("abc", count):
                    self.alone(parts, list(some), [part for part in parts if part[0] in some])

    def test_names_that_are_no_parts_or_stand_twice(self):
        self.alone(self.parts, ["b", "c", "b", "none", "c", ""], [self.parts[0], self.parts[2]])
        self.alone(self.parts, ["x", "y"], [])
        self.alone(self.parts, ["none"], [])
        self.alone([], ["a"], [])

    def test_parts_that_are_not_let_by(self):
        parts = [("a", [("jump", "gone")]), ("b", [("say", 0)]), ("a", [mark("x"), mark("x"), ("say", 9)]), ("c", [])]
        self.alone(parts, ["a"], [parts[0], parts[2]])
        self.alone(parts, ["c", "b"], [parts[1], parts[3]])

    def test_the_parts_needed_alone_are_let_by(self):
        chance = random.Random(32)
        for turn in range(60):
            parts = any_parts(chance)
            for start in code_names(parts):
                names = needed(parts, start)
                alone = only(parts, names)
                self.assertEqual([part[0] for part in bound(alone)], names)
                self.assertEqual(needed(alone, start), names)


def any_parts(chance):
    """Parts with rows that ask for few names each; some names have weak marks in several parts."""
    chosen = chance.sample("abcdefghijkl", chance.randint(1, 7))
    code = ["s" + part for part in chosen]
    parts = []
    for part in chosen:
        rows = [mark("s" + part)]
        other = chance.choice(chosen)
        for turn in range(chance.choice([0, 0, 1, 2])):
            rows.append(chance.choice([
                ("call", chance.choice(code)), ("alike", 0, chance.choice(code), "n" + other), ("say", 0), ("ask", 1),
                ("jumpif", 1, chance.choice(code)), ("load", 0, 1, "n" + other), ("set", 1, chance.randint(-1, 2))]))
        rows.append(chance.choice([STOP, ("back",), ("jump", chance.choice(code)), ("jumpby", 1, "t" + other)]))
        rows += [mark("n" + part), mark("n", False), ("numbers", [1, 2])]
        rows += [mark("t" + part), mark("t", False), ("table", chance.choices(code, k=chance.randint(1, 2)))]
        parts.append((part, rows))
    return parts


def code_names(parts):
    return ["s" + part for part, rows in parts]


def asked_names(row):
    """The names that a row asks for, in its own order."""
    if row[0] in ("jump", "jumpif", "call", "load", "jumpby"):
        return [row[-1]]
    if row[0] == "alike":
        return [row[2], row[3]]
    return list(row[1]) if row[0] == "table" else []


def is_closed(parts, homes, start, some):
    if homes[start] not in some:
        return False
    return all(homes[name] in some for part, rows in parts if part in some for row in rows for name in asked_names(row))


class AgainstAllLists(Closed):
    def homes(self, parts):
        return {name: place[0] for name, place in stands(parts).items()}

    def test_the_least_closed_list(self):
        chance = random.Random(30)
        sizes = {}
        for turn in range(60):
            parts = any_parts(chance)
            homes = self.homes(parts)
            names = [part for part, rows in parts]
            for start in code_names(parts):
                told = needed(parts, start)
                self.assertTrue(is_closed(parts, homes, start, told))
                self.assertEqual(told, sorted(set(told)))
                for count in range(len(names) + 1):
                    for some in itertools.combinations(names, count):
                        closed = is_closed(parts, homes, start, some)
                        if closed:
                            self.assertLessEqual(set(told), set(some))
                        self.assertEqual(leads_out(parts, start, list(some)) is None, closed)
                sizes[len(told)] = True
        self.assertGreaterEqual(len(sizes), 4)

    def test_what_leads_out_is_the_first(self):
        chance = random.Random(31)
        for turn in range(200):
            parts = any_parts(chance)
            homes = self.homes(parts)
            start = chance.choice(code_names(parts))
            some = [part for part, rows in parts if chance.random() < 0.7]
            out = [(part, name) for part, rows in sorted(parts) if part in some for row in rows for name in asked_names(row)
                   if homes[name] not in some]
            if homes[start] not in some:
                out.insert(0, (None, start))
            self.leads(parts, start, some, out[0] if out else None)

    def test_a_run_over_the_parts_needed_alone_is_the_same(self):
        chance = random.Random(29)
        for turn in range(150):
            parts = any_parts(chance)
            start = chance.choice(code_names(parts))
            inputs = [chance.randint(-1, 2) for number in range(4)]
            alone = only(parts, needed(parts, start))
            for steps in (0, 3, 100):
                self.assertEqual(run_names(alone, start, inputs, steps), run_names(parts, start, inputs, steps))


class Refused(Closed):
    parts = [("a", [mark("s"), STOP, mark("n"), ("numbers", [1]), mark("t"), ("table", ["s"])]), ("b", [mark("u", False), STOP])]

    def test_no_starts(self):
        for start in ["n", "t", "a", "b", "gone", "toolongaword"] + NO_WORDS:
            with self.subTest(repr(start)):
                self.assertEqual(self.refused(NoStart, needed, (self.parts, start)), {"name": start})
                for some in ([], ["a"], ["a", "b"], ["none"]):
                    self.assertEqual(self.refused(NoStart, leads_out, (self.parts, start, some)), {"name": start})

    def test_starts_that_are_some(self):
        for start, part in (("s", "a"), ("u", "b")):
            self.assertEqual(needed(self.parts, start), [part])
            self.assertIsNone(leads_out(self.parts, start, ["a", "b"]))

    def test_the_row_at_which_the_start_stands_counts(self):
        parts = [("b", [mark("x", False), STOP]), ("a", [mark("x", False), ("numbers", [1])])]
        self.assertEqual(self.refused(NoStart, needed, (parts, "x")), {"name": "x"})
        parts[0] = ("b", [mark("x", True), STOP])
        self.assertEqual(needed(parts, "x"), ["b"])

    def test_what_is_wrong_with_the_parts_goes_ahead(self):
        for error, parts, fields in WRONG_PARTS:
            for start in ["s", "x", "gone", "a"] + NO_WORDS:
                self.assertEqual(self.refused(error, needed, (parts, start)), fields)
                for some in ([], ["a"], ["none"], None):
                    self.assertEqual(self.refused(error, leads_out, (parts, start, some)), fields)


class TheAskersOwn(Closed):
    def test_needed(self):
        parts = [("a", [mark("s"), ("jump", "x")]), ("b", [mark("x"), STOP])]
        told = needed(parts, "s")
        told.append("c")
        self.assertEqual(needed(parts, "s"), ["a", "b"])
        told = needed(parts, "s")
        parts[0][1][1] = ("jump", "s")
        self.assertEqual(told, ["a", "b"])
        self.assertEqual(needed(parts, "s"), ["a"])

    def test_parts_alone(self):
        parts = [("a", [("numbers", [1, 2]), mark("x"), ("table", ["x"])]), ("b", [STOP])]
        before = copy.deepcopy(parts)
        told = only(parts, ["a", "b"])
        told[0][1][0][1].append(3)
        told[0][1][2][1][0] = "y"
        told[1][1].append(STOP)
        told.pop()
        self.assertEqual(parts, before)
        self.assertEqual(only(parts, ["a", "b"]), before)
        told = only(parts, ["a", "b"])
        parts[0][1][0][1].append(3)
        parts[0][1][2][1][0] = "y"
        parts[1][1].append(STOP)
        parts.pop()
        self.assertEqual(told, before)

    def test_what_leads_out(self):
        parts = [("a", [mark("s"), ("jump", "x")]), ("b", [mark("x"), STOP])]
        some = ["a"]
        told = leads_out(parts, "s", some)
        some.append("b")
        self.assertEqual(told, ("a", "x"))
        self.assertIsNone(leads_out(parts, "s", some))


class Interface(unittest.TestCase):
    def test_the_arguments_have_their_names(self):
        parts = [("a", [mark("s"), STOP])]
        self.assertEqual(needed(parts=parts, start="s"), ["a"])
        self.assertIsNone(leads_out(parts=parts, start="s", some=["a"]))
        self.assertEqual(only(parts=parts, some=["a"]), parts)


if __name__ == "__main__":
    unittest.main()
