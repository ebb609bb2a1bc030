"""Promises 26, 28, 33, 38, 39 and 44: what bound refuses, all others refuse alike, whatever else is handed in beside."""

import copy
import random
import unittest

from farjump.checking import wrong_in
from farjump.closed import leads_out, needed
from farjump.errors import PartError
from farjump.folding import classes, folded, parts_two
from farjump.keeper import Keeper
from farjump.laid import laid
from farjump.layout import least_layout, starts
from farjump.names import bound
from farjump.runner import run_names
from tests.helper import STOP, mark

# What may be handed in beside the parts, right or wrong: borders, bases, layouts, starts, lists of names and classes.
BORDERS = [1, 64, 0, -1, 65, None, True, "1"]
BASES = [0, 64, 1, -1, 65536, None, False, [0]]
LAYOUTS = [{}, {"a": [1]}, {"a": [1, 1], "b": [1]}, {"a": [True]}, None, [], 5]
STARTS = ["s", "x", "a", "gone", "", None, 7, [], {}]
SOME = [[], ["a"], ["a", "b"], ["none"], None]
CLASSES = [[], [["a"]], [["a", "b"]], [["a"], ["b"]], [["b"], ["a"]], [[]], None, "ab"]


def built(parts):
    keeper = Keeper(64, 64)
    for part in parts:
        keeper.put(part)
    return keeper.build()


def may_be_kept(parts):
    """A keeper has no two parts of one name: of these it would keep the last one."""
    if not isinstance(parts, list):
        return False
    names = [part[0] for part in parts if isinstance(part, (tuple, list)) and part]
    return not [name for name in names if names.count(name) > 1]


def all_asked(parts):
    """Each function that refuses as bound does, with what is handed in beside."""
    told = [(classes, (parts,)), (laid, (parts,))]
    told += [(built, (parts,))] if may_be_kept(parts) else []
    told += [(least_layout, (parts, border)) for border in BORDERS]
    told += [(starts, (parts, border, base, layout)) for border in BORDERS for base, layout in zip(BASES, LAYOUTS * 2)]
    told += [(wrong_in, (parts, border, layout)) for border in BORDERS for layout in LAYOUTS]
    told += [(needed, (parts, start)) for start in STARTS]
    told += [(leads_out, (parts, start, some)) for start in STARTS for some in SOME]
    told += [(run_names, (parts, start, [], 5)) for start in STARTS]
    told += [(asked, (parts, some)) for some in CLASSES for asked in (parts_two, folded)]
    told += [(laid, (parts, base, border)) for border in BORDERS for base in BASES]
    return told


def refusal(asked, given):
    """The class of the refusal and its fields, or None."""
    try:
        asked(*given)
    except PartError as error:
        return (type(error), vars(error))
    return None


def any_parts(chance):
    """Parts that are let by, with a row of most kinds."""
    chosen = chance.sample("abcd", chance.randint(1, 3))
    parts = []
    for part in chosen:
        other = chance.choice(chosen)
        rows = [mark("s" + part), mark("w", False), ("set", 0, 1), ("call", "s" + other), ("alike", 1, "n" + other, "w"), mark("y" + part),
                ("jumpif", 2, "y" + other), ("load", 0, 1, "n" + other), ("jumpby", 3, "t" + other), STOP,
                mark("n" + part), ("numbers", [1, 2]), mark("t" + part), ("table", ["s" + other, "w"])]
        parts.append((part, rows))
    return parts


def spoil(chance, parts):
    """One thing changed, in any place, such that the parts may be wrong by it."""
    number = chance.randrange(len(parts))
    part, rows = parts[number]
    at = chance.randrange(len(rows))
    turn = chance.randrange(9)
    if turn == 0:
        parts[number] = chance.choice([("A", rows), (part, tuple(rows)), (part,), [part, rows], None, (part, []), (part, [mark("q")])])
    elif turn == 1:
        parts.append(chance.choice([copy.deepcopy(parts[number]), ("e", []), ("e", [STOP] * 61), ("e", [mark("q")] * 201 + [STOP])]))
    elif turn == 2:
        rows[at] = chance.choice([None, (), ("mark",), ("mark", "x", 1), ("say", 4), ("jump", "X"), ["stop"], ("numbers", [])])
    elif turn == 3:
        rows.append(chance.choice([("say", 0), mark("q"), mark("q", False), ("call", "w"), ("load", 0, 0, "n" + part)]))
    elif turn == 4:
        rows.insert(at, ("numbers", [1]))
    elif turn == 5:
        rows.insert(at, chance.choice([mark("s" + part), mark("w"), mark("w")]))
    elif turn == 6:
        rows.insert(0, chance.choice([("jump", "gone"), ("alike", 0, "w", "gone"), ("call", "no"), ("table", ["w", "lost", "gone"])]))
    elif turn == 7:
        rows.insert(0, chance.choice([("jump", "n" + part), ("jumpby", 0, "s" + part), ("table", ["w", "t" + part])]))
    else:
        rows.pop(at)


class RefusedAlike(unittest.TestCase):
    def alike(self, parts):
        right = refusal(bound, (parts,))
        self.assertIsNotNone(right)
        before = copy.deepcopy(parts)
        for asked, given in all_asked(parts):
            self.assertEqual(refusal(asked, given), right, (asked.__name__, given[1:]))
        self.assertEqual(parts, before)
        return right[0].__name__

    def test_what_are_no_parts(self):
        for parts in (None, [], (), {}, "ab", 5, True, [None], [()], [("a",)], [("a", [])], [("a", [STOP], 1)], [["a", [STOP]]],
                      [("a", (STOP,))], [("A", [STOP])], [("", [STOP])], [("a", [STOP])] * 2, [("a", [STOP]), ("b", [mark("x")])],
                      [("a", [STOP] * 61)], [(name, [STOP]) for name in "abcdefghijklm"], (("a", [STOP]),)):
            self.assertEqual(self.alike(parts), "BadParts")

    def test_wrong_rows(self):
        for row in (None, (), ("say", 4), ("say",), ("mark", "x"), ("mark", "x", 0), "stop", ["stop"], ("numbers", []),
                    ("set", 0, 2 ** 31)):
            self.assertEqual(self.alike([("a", [STOP, row, STOP])]), "BadRow")
            self.assertEqual(self.alike([("b", [("say", 1)]), ("a", [row, STOP])]), "BadRow")

    def test_rows_without_an_end(self):
        for rows in ([("say", 0)], [STOP, mark("x")], [("ask", 1), ("numbers", [1])], [("say", 0), mark("x"), ("table", ["x"])]):
            self.assertEqual(self.alike([("a", rows)]), "NoEnd")
            self.assertEqual(self.alike([("b", [mark("q"), mark("q"), STOP]), ("a", rows)]), "NoEnd")

    def test_strong_marks_twice(self):
        self.assertEqual(self.alike([("a", [mark("x"), mark("x"), STOP])]), "Twice")
        self.assertEqual(self.alike([("b", [mark("x"), mark("s"), ("jump", "gone")]), ("a", [mark("x"), mark("s"), STOP])]), "Twice")

    def test_names_that_are_lacking_or_aimed_at_wrongly(self):
        self.assertEqual(self.alike([("a", [mark("s"), ("jump", "gone")])]), "Lacking")
        self.assertEqual(self.alike([("a", [mark("s"), STOP]), ("b", [("call", "b"), STOP])]), "Lacking")
        self.assertEqual(self.alike([("a", [mark("s"), STOP, mark("n"), ("numbers", [1]), ("jump", "n")])]), "WrongAim")
        self.assertEqual(self.alike([("b", [("jumpby", 0, "s"), ("jump", "gone")]), ("a", [mark("s"), ("jump", "gone")])]), "WrongAim")
        parts = [("b", [("jump", "gone"), ("jumpby", 0, "s")]), ("a", [mark("s"), ("load", 0, 0, "s"), STOP])]
        self.assertEqual(self.alike(parts), "Lacking")

    def test_parts_with_any_faults(self):
        chance = random.Random(26)
        seen = {}
        turn = 0
        while turn < 200:
            parts = any_parts(chance)
            self.assertIsNone(refusal(bound, (parts,)))
            for number in range(chance.choice([1, 1, 2])):
                if all(isinstance(part, tuple) and len(part) == 2 and isinstance(part[1], list) and part[1] for part in parts):
                    spoil(chance, parts)
            if refusal(bound, (parts,)) is not None:
                error = self.alike(parts)
                seen[error] = seen.get(error, 0) + 1
                turn += 1
        self.assertEqual(sorted(seen), ["BadParts", "BadRow", "Lacking", "NoEnd", "Twice", "WrongAim"])
        self.assertGreaterEqual(min(seen.values()), 4)


if __name__ == "__main__":
    unittest.main()
