"""Promises 39 to 41, and of promise 2 that what is told is the asker's own, and the order of the refusals."""

import copy
import random
import unittest

from farjump.cells import read_code, read_numbers, read_table
from farjump.errors import BadBase, NoName, TooFar
from farjump.laid import Image, laid
from farjump.layout import least_layout, starts
from farjump.names import bound, stands
from tests.helper import BACK, HUGE, NO_BORDERS, STOP, WRONG_PARTS, Refusals, filled, mark

END = 65536
NO_BASES = [-1, -2, -64, -640, -HUGE, True, False, None, "0", [0], (0,), {}]
NO_NAMES = ["", "X", "gone", "toolongaword", "x ", None, 0, True, [], ["x"], ("x",), {}, {"x": 1}]


def place_cells(place):
    return [place // 256, place % 256]


class Laid(Refusals):
    def lies(self, parts, base, border, cells=None, names=None, homes=None, moves=None):
        """Whatever the order of the parts: what is laid tells all of this."""
        for some in (parts, parts[::-1], sorted(parts, key=lambda part: part[0])):
            before = copy.deepcopy(some)
            image = laid(some, base, border)
            self.assertEqual(some, before)
            self.assertIs(type(image), Image)
            self.assertEqual((image.base(), image.border()), (base, border))
            if cells is not None:
                self.assertEqual(image.cells(), cells)
            if names is not None:
                self.assertEqual({name: image.place_of(name) for name in names}, names)
            if homes is not None:
                self.assertEqual(image.part_places(), homes)
            if moves is not None:
                self.assertEqual(image.moves(), moves)
            self.assertEqual((type(image.cells()), type(image.part_places()), type(image.moves())), (list, dict, list))
        return image

    def same(self, one, other):
        self.assertEqual(all_told(one), all_told(other))


def all_told(image):
    return (image.cells(), image.base(), image.border(), image.part_places(), image.moves())


class Cells(Laid):
    def test_rows_without_names(self):
        rows = [("set", 1, 258), ("set", 2, -1), ("add", 1, 2), ("take", 3, 0), ("say", 3), ("ask", 2), BACK, STOP, ("numbers", [1, -2])]
        cells = [17, 0, 0, 1, 2, 18, 255, 255, 255, 255, 38, 60, 67, 70, 98, 99, 0, 2, 0, 0, 0, 1, 255, 255, 255, 254]
        for base, border in ((0, 1), (7, 1), (640, 64), (65000, 2)):
            self.lies([("a", rows)], base, border, cells, {}, {"a": base}, [])

    def test_short_aims(self):
        rows = [mark("x"), ("call", "y"), ("jumpif", 2, "x"), ("load", 1, 2, "n"), mark("y"), ("jumpby", 3, "t"), ("jump", "x"),
                mark("n"), ("numbers", [5]), mark("t"), ("table", ["y"])]
        cells = [82, 4, 86, 252, 118, 4, 103, 8, 80, 246, 0, 1, 0, 0, 0, 5, 0, 1]
        for base in (0, 1, 300, 65536 - 20):
            self.lies([("a", rows)], base, 1, cells + place_cells(base + 6),
                      {"x": base, "y": base + 6, "n": base + 10, "t": base + 16}, {"a": base}, [base + 18])

    def test_long_aims(self):
        far = filled(200)
        ahead = [("call", "y"), ("jumpif", 2, "y"), ("load", 1, 2, "n"), ("jumpby", 3, "t"), ("jump", "y")]
        behind = [mark("y"), STOP, mark("n"), ("numbers", [5]), mark("t"), ("table", ["z"]), mark("z"), BACK]
        for base in (0, 256, 1000, 65536 - 300):
            image = self.lies([("a", ahead[:4] + far + behind)], base, 1)
            y = base + 12 + 200
            cells = [83] + place_cells(y) + [90] + place_cells(y) + [134] + place_cells(y + 1) + [107] + place_cells(y + 7)
            self.assertEqual(image.cells()[:12], cells)
            self.assertEqual(image.cells()[-12:], [99, 0, 1, 0, 0, 0, 5, 0, 1] + place_cells(y + 11) + [98])
            self.assertEqual(image.moves(), [base + 1, base + 4, base + 7, base + 10, y + 9])
            image = self.lies([("a", ahead[4:] + far + behind)], base, 1)
            self.assertEqual(image.cells()[:3], [81] + place_cells(base + 203))
            self.assertEqual(image.moves(), [base + 1, base + 203 + 9])

    def test_long_aims_back(self):
        rows = [mark("x"), STOP] + filled(200) + [("jump", "x")]
        self.lies([("a", rows)], 513, 1, None, {"x": 513}, {"a": 513}, [513 + 202])
        self.assertEqual(laid([("a", rows)], 513, 1).cells()[-3:], [81, 2, 1])

    def test_just_near_and_just_too_far(self):
        for between in (125, 126, 127, 128, 129):
            image = laid([("a", [("jump", "x")] + filled(between) + [mark("x"), STOP])], 10)
            right = [80, between] if between <= 127 else [81] + place_cells(10 + 3 + between)
            self.assertEqual(image.cells()[:len(right)], right)
            self.assertEqual(image.moves(), [] if between <= 127 else [11])
            self.assertEqual(image.place_of("x"), 10 + len(right) + between)
        for between in (124, 125, 126, 127):
            image = laid([("a", [mark("x"), STOP] + filled(between) + [("jump", "x")])], 10)
            right = [80, 256 - (between + 3)] if between + 3 <= 128 else [81, 0, 10]
            self.assertEqual(image.cells()[between + 1:], right)
            self.assertEqual(image.moves(), [] if between + 3 <= 128 else [10 + between + 2])

    def test_alike_and_tables(self):
        rows = [mark("x"), ("alike", 2, "x", "n"), STOP, mark("n"), ("numbers", [1]), ("table", ["x", "y", "x"]), mark("y"), BACK]
        for base in (0, 5, 700):
            cells = [146] + place_cells(base) + place_cells(base + 6) + [99, 0, 1, 0, 0, 0, 1, 0, 3]
            cells += place_cells(base) + place_cells(base + 20) + place_cells(base) + [98]
            self.lies([("a", rows)], base, 1, cells, None, None, [base + 1, base + 3, base + 14, base + 16, base + 18])

    def test_one_row(self):
        self.lies([("a", [STOP])], 0, 1, [99], {}, {"a": 0}, [])
        self.lies([("a", [mark("x"), mark("y"), STOP])], 65535, 1, [99], {"x": 65535, "y": 65535}, {"a": 65535}, [])

    def test_a_jump_over_a_border_is_long_by_stretched_places(self):
        # What really lies between is nothing: the part ends at a border. By stretched places it is 63 more.
        parts = [("a", [("jump", "x")] + filled(63 + 63)), ("b", [mark("x"), STOP])]
        image = laid(parts, 0, 64)
        self.assertEqual(image.part_places(), {"a": 0, "b": 192})
        self.assertEqual(image.cells()[:3], [81, 0, 192])
        self.assertEqual(image.moves(), [1])
        parts = [("a", [("jump", "x")] + filled(62)), ("b", [mark("x"), STOP])]
        image = laid(parts, 64, 64)
        self.assertEqual(image.cells()[:2], [80, 62])
        parts = [("a", [("jump", "x")] + filled(65)), ("b", [mark("x"), STOP])]
        image = laid(parts, 64, 64)
        self.assertEqual(image.part_places(), {"a": 64, "b": 192})
        self.assertEqual(image.cells()[:3], [81, 0, 192])


class Parts(Laid):
    def test_in_the_order_of_their_names_with_noughts_between(self):
        parts = [("c", [mark("x"), ("say", 3), STOP]), ("a", [("say", 1), STOP, STOP]), ("b", [BACK]), ("ab", [STOP] * 4)]
        a, ab, b, c = [65, 99, 99], [99] * 4, [98], [67, 99]
        self.lies(parts, 0, 1, a + ab + b + c, {"x": 8}, {"a": 0, "ab": 3, "b": 7, "c": 8}, [])
        self.lies(parts, 2, 2, a + [0] + ab + b + [0] + c, {"x": 12}, {"a": 2, "ab": 6, "b": 10, "c": 12}, [])
        self.lies(parts, 9, 3, a + ab + [0, 0] + b + [0, 0] + c, {"x": 21}, {"a": 9, "ab": 12, "b": 18, "c": 21}, [])
        self.lies(parts, 4, 4, a + [0] + ab + b + [0] * 3 + c, {"x": 16}, {"a": 4, "ab": 8, "b": 12, "c": 16}, [])
        self.lies(parts, 0, 64, a + [0] * 61 + ab + [0] * 60 + b + [0] * 63 + c, {"x": 192}, {"a": 0, "ab": 64, "b": 128, "c": 192}, [])

    def test_no_noughts_behind_the_last_part(self):
        for border in (1, 2, 33, 64):
            self.lies([("a", [STOP])], border, border, [99])

    def test_base_and_border_left_out(self):
        parts = [("b", [mark("x"), STOP]), ("a", [STOP])]
        for image in (laid(parts), laid(parts, 0), laid(parts, 0, 1), laid(parts, border=1), laid(parts, base=0)):
            self.assertEqual(all_told(image), ([99, 99], 0, 1, {"a": 0, "b": 1}, []))
        self.assertEqual(all_told(laid(parts, 5)), ([99, 99], 5, 1, {"a": 5, "b": 6}, []))
        self.assertEqual(all_told(laid(parts, border=3)), ([99, 0, 0, 99], 0, 3, {"a": 0, "b": 3}, []))

    def test_twelve_parts(self):
        parts = [(name, [mark("x" + name), STOP]) for name in "lkjihgfedcba"]
        for border in (1, 10, 64):
            homes = {name: border * (3 + number) for number, name in enumerate("abcdefghijkl")}
            self.lies(parts, 3 * border, border, ([99] + [0] * (border - 1)) * 11 + [99],
                      {"x" + name: place for name, place in homes.items()}, homes, [])

    def test_jumps_between_parts(self):
        parts = [("b", [mark("x"), ("jump", "y")]), ("a", [mark("y"), ("call", "x"), STOP])]
        self.lies(parts, 0, 1, [82, 1, 99, 80, 251], {"x": 3, "y": 0}, {"a": 0, "b": 3}, [])
        self.lies(parts, 16, 8, [82, 6, 99, 0, 0, 0, 0, 0, 80, 246], {"x": 24, "y": 16}, {"a": 16, "b": 24}, [])


class Names(Laid):
    def test_the_row_at_which_a_name_stands(self):
        parts = [("b", [mark("x", False), STOP, mark("y"), STOP]), ("a", [STOP, mark("x", False), STOP, mark("x", False), STOP]),
                 ("c", [mark("y", False), STOP, mark("z", False), STOP])]
        self.lies(parts, 100, 1, None, {"x": 101, "y": 104, "z": 106})
        parts[2] = ("c", [mark("x"), STOP, mark("z", False), STOP])
        self.lies(parts, 100, 1, None, {"x": 105, "y": 104, "z": 106})

    def test_no_names(self):
        parts = [("a", [mark("x"), STOP]), ("b", [mark("y"), STOP]), ("y", [STOP])]
        image = laid(parts, 9)
        for name in ["a", "b", "z", "stop"] + NO_NAMES:
            with self.subTest(repr(name)):
                self.assertEqual(self.refused(NoName, image.place_of, (name,)), {"name": name})
                self.assertEqual(self.refused(NoName, image.moved(-9).place_of, (name,)), {"name": name})
        # It is a part's name, too: the name is told, not the part.
        self.assertEqual((image.place_of("y"), image.part_places()["y"]), (10, 11))


class Refused(Laid):
    parts = [("a", [mark("x"), STOP]), ("b", [STOP])]

    def test_borders_that_are_none(self):
        for border in NO_BORDERS:
            for base in (0, 1, 64, HUGE, END) + tuple(NO_BASES):
                self.refused(BadBase, laid, (self.parts, base, border))
        for border in range(1, 65):
            self.assertEqual(laid(self.parts, 0, border).border(), border)

    def test_bases_that_are_none(self):
        for border in range(1, 65):
            for base in NO_BASES + [-border, -3 * border]:
                self.refused(BadBase, laid, (self.parts, base, border))
            for base in range(1, 3 * border):
                if base % border:
                    self.refused(BadBase, laid, (self.parts, base, border))
                    self.refused(BadBase, laid, (self.parts, base - 3 * border, border))
                else:
                    self.assertEqual(laid(self.parts, base, border).base(), base)
        self.refused(BadBase, laid, (self.parts, -1))
        self.refused(BadBase, laid, (self.parts, None))

    def test_too_far_just_where_the_end_is_above_65536(self):
        for cells in (1, 2, 3, 100, 1000):
            parts = [("a", filled(cells))]
            self.assertEqual(len(laid(parts, END - cells).cells()), cells)
            self.assertEqual(laid(parts, END - cells).base(), END - cells)
            for base in (END - cells + 1, END - 1 + (cells == 1), END, END + 1, 10 * END, HUGE):
                self.refused(TooFar, laid, (parts, base))

    def test_too_far_by_the_borders_between(self):
        for border in (2, 16, 64):
            # The last part starts at the last border: it ends at the end of all places just where it has border cells.
            for cells, error in ((1, None), (border, None), (border + 1, TooFar)):
                parts = [("a", [STOP]), ("b", filled(cells))]
                if error is None:
                    image = laid(parts, END - 2 * border, border)
                    self.assertEqual(image.part_places(), {"a": END - 2 * border, "b": END - border})
                else:
                    self.refused(error, laid, (parts, END - 2 * border, border))
                self.refused(TooFar, laid, (parts, END - border, border))

    def test_the_longest_parts(self):
        parts = [(name, [("numbers", [1] * 60)] * count) for name, count in (("a", 60), ("b", 60), ("c", 60), ("d", 20))]
        cells = 200 * 242
        for base in (0, 1, END - cells - 1, END - cells):
            self.assertEqual(len(laid(parts, base).cells()), cells)
        self.refused(TooFar, laid, (parts, END - cells + 1))

    def test_a_wrong_base_goes_ahead_of_too_far(self):
        for base, border in ((END + 1, 2), (HUGE, 2), (END, 65), (END, 0), (HUGE, None), (10 * END + 1, 64)):
            self.refused(BadBase, laid, (self.parts, base, border))

    def test_what_is_wrong_with_the_parts_goes_ahead(self):
        for error, parts, fields in WRONG_PARTS:
            self.assertEqual(self.refused(error, laid, (parts,)), fields)
            for border in [1, 64] + NO_BORDERS:
                for base in [0, 64, 65, END, HUGE] + NO_BASES:
                    self.assertEqual(self.refused(error, laid, (parts, base, border)), fields)


class Moved(Laid):
    parts = [("a", [mark("x"), ("jump", "y"), mark("t"), ("table", ["x", "z"])]),
             ("b", filled(200) + [mark("y"), ("alike", 0, "x", "y"), mark("z"), ("jumpif", 0, "y"), ("jumpby", 1, "t")])]

    def test_ahead_and_back(self):
        for border in (1, 4, 64):
            one = laid(self.parts, 5 * border, border)
            before = all_told(one)
            for steps in (-5, -4, -1, 0, 1, 2, 100, 500):
                told = one.moved(steps * border)
                self.assertIs(type(told), Image)
                self.same(told, laid(self.parts, (5 + steps) * border, border))
                for name in "xyzt":
                    self.assertEqual(told.place_of(name), one.place_of(name) + steps * border)
                self.assertEqual(all_told(one), before)
                self.same(told.moved(-steps * border), one)

    def test_what_is_added(self):
        one = laid([("a", [mark("x"), STOP, ("table", ["x", "x"]), ("alike", 0, "x", "x"), STOP, ("numbers", [1])])], 254)
        told = one.moved(3)
        self.assertEqual(one.cells(), [99, 0, 2, 0, 254, 0, 254, 144, 0, 254, 0, 254, 99, 0, 1, 0, 0, 0, 1])
        self.assertEqual(told.cells(), [99, 0, 2, 1, 1, 1, 1, 144, 1, 1, 1, 1, 99, 0, 1, 0, 0, 0, 1])
        self.assertEqual((one.moves(), told.moves()), ([257, 259, 262, 264], [260, 262, 265, 267]))
        self.assertEqual((told.base(), told.border(), told.place_of("x"), told.part_places()), (257, 1, 257, {"a": 257}))
        self.assertEqual(told.moved(-257).cells(), [99, 0, 2, 0, 0, 0, 0, 144, 0, 0, 0, 0, 99, 0, 1, 0, 0, 0, 1])

    def test_by_nothing_it_is_a_new_one(self):
        one = laid(self.parts, 8, 2)
        told = one.moved(0)
        self.same(one, told)
        self.assertIsNot(one, told)

    def test_moved_again_and_again(self):
        one = laid(self.parts, 0, 3)
        told = one
        place = 0
        for by in (3, 300, -3, -300, 30000, -15000, 12, 45000, -60012):
            told = told.moved(by)
            place += by
            self.same(told, laid(self.parts, place, 3))
        self.same(told, one)

    def test_no_multiples(self):
        for border in (2, 3, 10, 64):
            one = laid(self.parts, 10 * border, border)
            for by in [border * steps + rest for steps in (-12, -11, -3, 0, 1, 5000, 10 ** 50) for rest in (1, border - 1)]:
                self.refused(BadBase, one.moved, (by,))
        for by in (None, True, False, "1", [1], (1,)):
            self.refused(BadBase, laid(self.parts, 10).moved, (by,))

    def test_below_0(self):
        for border in (1, 2, 64):
            one = laid(self.parts, 10 * border, border)
            self.same(one.moved(-10 * border), laid(self.parts, 0, border))
            for steps in (-11, -12, -100, -(10 ** 50)):
                self.refused(BadBase, one.moved, (steps * border,))
        self.refused(BadBase, laid(self.parts).moved, (-1,))

    def test_too_far(self):
        for cells in (1, 2, 64, 100):
            one = laid([("a", filled(cells))], 5)
            self.assertEqual(one.moved(END - cells - 5).base(), END - cells)
            for by in (END - cells - 4, END - cells - 3, END, HUGE):
                self.refused(TooFar, one.moved, (by,))
        one = laid([("a", [STOP]), ("b", filled(40))], 64, 64)
        self.assertEqual(one.moved(END - 3 * 64).part_places(), {"a": END - 128, "b": END - 64})
        self.refused(TooFar, one.moved, (END - 2 * 64,))
        self.refused(BadBase, one.moved, (END - 2 * 64 + 1,))

    def test_the_one_moved_from_stays_where_it_is_refused(self):
        one = laid(self.parts, 10, 2)
        before = all_told(one)
        for by in (1, -12, -11, END, END + 1):
            with self.assertRaises((BadBase, TooFar)):
                one.moved(by)
            self.assertEqual(all_told(one), before)


class TheAskersOwn(Laid):
    def test_what_is_told(self):
        parts = copy.deepcopy(Moved.parts)
        for image in (laid(parts, 6, 2), laid(parts, 0, 2).moved(6), laid(parts, 6, 2).moved(0)):
            before = copy.deepcopy(all_told(image))
            image.cells()[0] = 7
            image.cells().clear()
            image.moves().clear()
            image.part_places().clear()
            image.part_places()["z"] = 5
            cells, moves, homes = image.cells(), image.moves(), image.part_places()
            cells[:] = [1]
            moves.append(3)
            homes["a"] = 1
            self.assertEqual(all_told(image), before)
            self.same(image.moved(4), laid(parts, 10, 2))
            self.assertEqual(cells, [1])
        self.assertEqual(parts, Moved.parts)

    def test_what_was_handed_in(self):
        parts = copy.deepcopy(Moved.parts)
        image = laid(parts, 6, 2)
        before = copy.deepcopy(all_told(image))
        parts[0][1][3][1][0] = "z"
        parts[1][1].insert(0, STOP)
        parts.pop()
        self.assertEqual(all_told(image), before)
        self.assertEqual(image.place_of("x"), 6)
        self.same(image.moved(2), laid(Moved.parts, 8, 2))

    def test_what_is_moved_is_its_own(self):
        one = laid(Moved.parts, 6, 2)
        other = one.moved(0)
        other.cells()[0] = 1
        other.part_places()["a"] = 1
        other.moves().append(1)
        self.same(one, laid(Moved.parts, 6, 2))
        self.same(other, one)


# The same, reckoned another way: rows written one by one, first with blanks where the aims are, then filled in.
FIRST = {"set": 16, "add": 32, "take": 48, "say": 64, "ask": 68, "back": 98, "stop": 99, "alike": 144}
FIRST_SHORT = {"jump": 80, "call": 82, "jumpif": 84, "jumpby": 100, "load": 112}
FIRST_LONG = {"jump": 81, "call": 83, "jumpif": 88, "jumpby": 104, "load": 128}


def laid_by_hand(parts, base, border):
    layout = least_layout(parts, border)
    cells, filled_in, places, homes = {}, [], {}, {}
    at = base
    for part, rows in bound(parts):
        while at % border:
            cells[at] = 0
            at += 1
        homes[part] = at
        for number, row in enumerate(rows):
            places[part, number] = at
            length = layout[part][number]
            boxes = [one for one in row[1:] if isinstance(one, int)]
            if row[0] == "set":
                boxes.pop()
            told = boxes[0] * 4 + boxes[1] if len(boxes) == 2 else sum(boxes)
            if row[0] in FIRST_LONG and length == 2:
                cells[at] = FIRST_SHORT[row[0]] + told
                filled_in.append((at + 1, row[-1], True))
            elif row[0] in FIRST_LONG:
                cells[at] = FIRST_LONG[row[0]] + told
                filled_in.append((at + 1, row[-1], False))
            elif row[0] in ("numbers", "table"):
                cells[at], cells[at + 1] = divmod(len(row[1]), 256)
                for turn, one in enumerate(row[1]):
                    if row[0] == "table":
                        filled_in.append((at + 2 + 2 * turn, one, False))
                    else:
                        for cell, value in enumerate((one % 2 ** 32).to_bytes(4, "big")):
                            cells[at + 2 + 4 * turn + cell] = value
            else:
                cells[at] = FIRST[row[0]] + told
                if row[0] == "set":
                    for cell, value in enumerate((row[2] % 2 ** 32).to_bytes(4, "big")):
                        cells[at + 1 + cell] = value
                if row[0] == "alike":
                    filled_in += [(at + 1, row[2], False), (at + 3, row[3], False)]
            at += length
    names = {name: places[place] for name, place in stands(parts).items()}
    for place, name, short in filled_in:
        if short:
            step = names[name] - (place + 1)
            assert -128 <= step <= 127
            cells[place] = step % 256
        else:
            cells[place], cells[place + 1] = divmod(names[name], 256)
    moves = sorted(place for place, name, short in filled_in if not short)
    return [cells[place] for place in range(base, at)], names, homes, moves


def any_parts(chance):
    chosen = chance.sample(["a", "b", "c", "ab", "z", "m"], chance.randint(1, 5))
    code = [part + letter for part in chosen for letter in "xyz"]
    parts = []
    for part in chosen:
        rows = []
        for letter in "xyz":
            rows += filled(chance.choice([0, 1, 7, 20, 40, 60, 110]))
            rows.append(mark(part + letter))
            for turn in range(chance.randint(0, 3)):
                box, other, home = chance.randrange(4), chance.randrange(4), chance.choice(chosen)
                rows.append(chance.choice([
                    ("set", box, chance.randint(-2 ** 31, 2 ** 31 - 1)), ("add", box, other), ("take", box, other), ("say", box),
                    ("ask", box), ("jumpif", box, chance.choice(code)), ("call", chance.choice(code)),
                    ("alike", box, "n" + home, chance.choice(code)), ("load", box, other, "n" + home)]))
            rows.append(chance.choice([("jump", chance.choice(code)), ("jumpby", chance.randrange(4), "t" + chance.choice(chosen)),
                                       STOP, BACK]))
        rows += [mark("w", False), mark("n" + part), ("numbers", [chance.randint(-2 ** 31, 2 ** 31 - 1), 5])]
        rows += [mark("t" + part), ("table", chance.choices(code, k=chance.randint(1, 4)))]
        parts.append((part, rows))
    return parts


class AgainstByHand(Laid):
    def test_any_parts(self):
        chance = random.Random(40)
        longs = 0
        for turn in range(150):
            parts = any_parts(chance)
            border = chance.choice([1, 2, 3, 16, 33, 64])
            base = border * chance.choice([0, 1, 7, 300])
            cells, names, homes, moves = laid_by_hand(parts, base, border)
            image = self.lies(parts, base, border, cells, names, homes, moves)
            self.assertEqual(homes, starts(parts, border, base, least_layout(parts, border)))
            longs += len(moves) > 20
            by = border * chance.choice([-1, -2, 1, 5, 77])
            if base + by >= 0:
                cells, names, homes, moves = laid_by_hand(parts, base + by, border)
                told = image.moved(by)
                self.assertEqual(all_told(told), (cells, base + by, border, homes, moves))
                self.assertEqual({name: told.place_of(name) for name in names}, names)
        self.assertGreater(longs, 20)

    def test_rows_are_read_back(self):
        chance = random.Random(41)
        for turn in range(60):
            parts = any_parts(chance)
            border = chance.choice([1, 5, 64])
            image = laid(parts, 0, border)
            cells, homes = image.cells(), image.part_places()
            layout = least_layout(parts, border)
            for part, rows in bound(parts):
                at = homes[part]
                for row, length in zip(rows, layout[part]):
                    if row[0] == "numbers":
                        self.assertEqual(read_numbers(cells, at), (row[1], at + length))
                    elif row[0] == "table":
                        self.assertEqual(read_table(cells, at), ([image.place_of(name) for name in row[1]], at + length))
                    else:
                        right = tuple(image.place_of(one) if isinstance(one, str) else one for one in row[1:])
                        near = length == 2 if row[0] in FIRST_LONG else None
                        self.assertEqual(read_code(cells, at), (row[:1] + right, near, at + length))
                    at += length


class Interface(unittest.TestCase):
    def test_the_arguments_have_their_names(self):
        image = laid(parts=[("a", [mark("x"), STOP])], base=4, border=2)
        self.assertEqual(image.place_of(name="x"), 4)
        self.assertEqual(image.moved(by=2).base(), 6)


if __name__ == "__main__":
    unittest.main()
