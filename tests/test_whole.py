"""Promises 1 and 2, over the whole program: what is laid does what was told, whatever way it went; and all is the asker's own."""

import copy
import random
import unittest

from farjump import errors
from farjump.cells import cells_of, read_code, read_numbers, read_table
from farjump.checking import wrong_in
from farjump.closed import leads_out, needed, only
from farjump.desk import Desk
from farjump.errors import PartError
from farjump.folding import classes, folded, parts_two
from farjump.keeper import Keeper
from farjump.laid import laid
from farjump.layout import least_layout, starts
from farjump.machine import run_cells
from farjump.names import bound, stands
from farjump.parts import looked_at
from farjump.rows import asked_by, lengths, row_of
from farjump.runner import run_names
from farjump.texts import read_parts, show_parts, show_row
from tests.helper import STOP, code_names, lively_parts, mark


def shuffled(chance, parts):
    return chance.sample(parts, len(parts))


def moved_about(chance, image):
    """Moved ahead and back, by multiples of its border."""
    border = image.border()
    last = (65536 - len(image.cells())) // border
    for turn in range(chance.randint(0, 3)):
        image = image.moved(chance.randint(0, last) * border - image.base())
    return image


def run_image(image, start, inputs, steps):
    return run_cells(image.cells(), image.base(), image.place_of(start), inputs, steps)


class AllWays(unittest.TestCase):
    def test_all_tell_the_same_answers_and_the_same_end(self):
        chance = random.Random(1)
        ends, kinds, fewer, fewest = {}, {}, 0, 0
        for turn in range(250):
            parts = lively_parts(chance)
            kinds.update({row[0]: True for part, rows in parts for row in rows})
            start = chance.choice(code_names(parts))
            alone = only(parts, needed(parts, start))
            self.assertIsNone(leads_out(parts, start, needed(parts, start)))
            fold = folded(alone, classes(alone))
            fewer += len(alone) < len(parts)
            fewest += len(fold) < len(alone)
            some = [parts, shuffled(chance, parts), alone, fold, folded(parts, classes(parts)), read_parts(show_parts(fold))]
            some.append(only(some[4], needed(some[4], start)))
            images = []
            for one in some:
                border = chance.choice([1, 2, 5, 64])
                self.assertIsNone(wrong_in(one, border, least_layout(one, border)))
                images.append(moved_about(chance, laid(one, border * chance.choice([0, 1, 30]), border)))
            for steps in (0, 1, 7, 50, 500):
                inputs = [chance.randint(-1, 4) for number in range(chance.randint(0, 9))]
                right = run_names(parts, start, inputs, steps)
                ends[right[1]] = ends.get(right[1], 0) + 1
                for one in some:
                    self.assertEqual(run_names(one, start, inputs, steps), right)
                for image in images:
                    self.assertEqual(run_image(image, start, inputs, steps), right)
        self.assertEqual(sorted(ends), ["ask", "deep", "empty", "place", "steps", "stop"])
        self.assertEqual(len(kinds), 16)
        self.assertGreater(min(ends.values()), 20)
        self.assertGreater(fewer, 30)
        self.assertGreater(fewest, 30)

    def test_the_desk_goes_the_same_ways(self):
        chance = random.Random(2)
        for turn in range(60):
            parts = lively_parts(chance)
            start = chance.choice(code_names(parts))
            inputs = [chance.randint(-1, 4) for number in range(6)]
            answers, end = run_names(parts, start, inputs, 500)
            right = " ".join(str(one) for one in answers + [end])
            tail = " ".join(str(one) for one in [start, 500] + inputs)
            desk = Desk()
            desk.say("put\n" + show_parts(parts))
            for row in ("parts", "lay 64 64", "keep " + desk.say("needed " + start), "fold", "lay 7 1", "build", "fold"):
                desk.say(row)
                self.assertEqual(desk.say("run " + tail), right)
                self.assertEqual(desk.say("go " + tail), right)

    def test_a_keeper_builds_what_is_laid(self):
        chance = random.Random(3)
        for turn in range(40):
            parts = lively_parts(chance)
            keeper = Keeper(64, 32)
            for part in shuffled(chance, parts):
                keeper.put(part)
            image = keeper.build()
            self.assertEqual(image.cells(), laid(parts, 64, 32).cells())
            start = chance.choice(code_names(parts))
            self.assertEqual(run_image(image, start, [1, 2, 0], 500), run_names(parts, start, [1, 2, 0], 500))


def upset(thing):
    """Changes each list and dict in it."""
    if isinstance(thing, dict):
        for one in list(thing.values()):
            upset(one)
        thing.clear()
        thing["upset"] = 1
    if isinstance(thing, (list, tuple)):
        for one in list(thing):
            upset(one)
        if isinstance(thing, list):
            thing.reverse()
            thing.append("upset")
            thing[0] = None


PARTS = [
    ("b", [mark("s"), mark("w", False), ("ask", 0), ("call", "f"), ("load", 1, 0, "n"), ("say", 1), ("alike", 2, "s", "w"), ("jumpby", 0, "t"),
           mark("n"), ("numbers", [4, -5]), mark("t"), ("table", ["s", "w", "e"])]),
    ("a", [mark("f"), ("jumpif", 3, "f"), ("back",), mark("e"), STOP]),
    ("c", [mark("g"), ("jumpif", 3, "g"), ("back",), STOP]),
]
LAYOUT = {"a": [2, 1, 1], "b": [1, 2, 2, 1, 5, 2, 10, 8], "c": [2, 1, 1]}


def all_asked():
    """Each function with what is handed in, new each time."""
    parts = lambda: copy.deepcopy(PARTS)
    layout = lambda: copy.deepcopy(LAYOUT)
    cells = laid(parts(), 10).cells()
    place = laid(parts(), 10).place_of("s")
    return [
        (asked_by, (("table", ["s", "w"]),)), (lengths, (("numbers", [1]),)), (stands, (parts(),)), (bound, (parts(),)),
        (run_names, (parts(), "s", [1, 2], 500)), (cells_of, (("table", [1, 2]), 0, None)), (cells_of, (("jump", 5), 0, True)),
        (read_code, ([81, 1, 2], 0)), (read_numbers, ([0, 1, 0, 0, 0, 5], 0)), (read_table, ([0, 1, 0, 5], 0)),
        (least_layout, (parts(), 4)), (starts, (parts(), 4, 8, layout())), (wrong_in, (parts(), 4, layout())),
        (wrong_in, (parts(), 4, dict(layout(), a=[2, 2, 1]))), (needed, (parts(), "s")), (leads_out, (parts(), "s", ["b"])),
        (only, (parts(), ["b", "a"])), (classes, (parts(),)), (parts_two, (parts(), [["a", "b", "c"]])),
        (folded, (parts(), [["a"], ["b"], ["c"]])), (run_cells, (list(cells), 10, place, [1, 2], 500)), (show_row, (("numbers", [1, 2]),)),
        (show_parts, (parts(),)), (read_parts, (show_parts(parts()),)),
        (lambda some: [(name, [row.words() for row in rows]) for name, rows in looked_at(some)], (parts(),)),
        (lambda row: (row_of(row).words(), row_of(row).asked(), row_of(row).lengths()), (("table", ["a", "b"]),)),
        (lambda some: laid(some, 8, 4).cells(), (parts(),)), (lambda some: laid(some, 8, 4).moves(), (parts(),)),
        (lambda some: laid(some, 8, 4).part_places(), (parts(),)), (lambda some: laid(some, 8, 4).moved(-4).cells(), (parts(),)),
    ]


class TheAskersOwn(unittest.TestCase):
    def test_nothing_that_is_handed_in_is_changed(self):
        for asked, given in all_asked():
            before = copy.deepcopy(given)
            asked(*given)
            self.assertEqual(given, before, asked)

    def test_what_is_told_is_new(self):
        for asked, given in all_asked():
            first = asked(*given)
            right = copy.deepcopy(first)
            before = copy.deepcopy(given)
            upset(first)
            self.assertEqual(given, before, asked)
            self.assertEqual(asked(*given), right, asked)

    def test_what_is_changed_behind_changes_nothing_that_was_told(self):
        for asked, given in all_asked():
            told = asked(*given)
            right = copy.deepcopy(told)
            upset(given)
            self.assertEqual(told, right, asked)

    def test_an_image_and_a_keeper_stand_by_themselves(self):
        parts = copy.deepcopy(PARTS)
        image, keeper = laid(parts, 8, 4), Keeper(8, 4)
        for part in parts:
            keeper.put(part)
        objects = looked_at(parts)
        words = [[row.words() for row in rows] for name, rows in objects]
        upset(parts)
        for told in (image, keeper.build(), image.moved(4).moved(-4)):
            for turn in range(2):
                right = laid(PARTS, 8, 4)
                self.assertEqual((told.cells(), told.moves(), told.part_places()), (right.cells(), right.moves(), right.part_places()))
                upset([told.cells(), told.moves(), told.part_places()])
        self.assertEqual([[row.words() for row in rows] for name, rows in objects], words)
        upset(keeper.touched())
        self.assertEqual(keeper.touched(), ["a", "b", "c"])

    def test_what_was_told_may_be_handed_in_again(self):
        bare = bound(PARTS)
        self.assertEqual([name for name, rows in bare], ["a", "b", "c"])
        fold = folded(PARTS, classes(PARTS))
        self.assertEqual(folded(fold, classes(fold)), fold)
        self.assertEqual(only(fold, needed(fold, "s")), fold)
        self.assertEqual(read_parts(show_parts(fold)), fold)


class Refusals(unittest.TestCase):
    def test_no_class_stands_under_another_one(self):
        own = [thing for thing in vars(errors).values() if isinstance(thing, type) and thing is not PartError]
        self.assertEqual(len(own), 15)
        for one in own:
            self.assertTrue(issubclass(one, PartError))
            self.assertEqual([other for other in own if issubclass(one, other)], [one])


if __name__ == "__main__":
    unittest.main()
