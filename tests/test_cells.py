"""Promises 17 to 21, and of promise 2 that what is told is the asker's own."""

import copy
import random
import unittest

from farjump.cells import cells_of, read_code, read_numbers, read_table
from farjump.errors import NoCells

LEAST = -2147483648
GREATEST = 2147483647
BOXES = [0, 1, 2, 3]
PLACES = [(0, [0, 0]), (1, [0, 1]), (255, [0, 255]), (256, [1, 0]), (300, [1, 44]), (65534, [255, 254]), (65535, [255, 255])]
NUMBERS = [(LEAST, [128, 0, 0, 0]), (LEAST + 1, [128, 0, 0, 1]), (-256, [255, 255, 255, 0]), (-1, [255, 255, 255, 255]),
           (0, [0, 0, 0, 0]), (1, [0, 0, 0, 1]), (255, [0, 0, 0, 255]), (256, [0, 0, 1, 0]), (65535, [0, 0, 255, 255]),
           (65536, [0, 1, 0, 0]), (16909060, [1, 2, 3, 4]), (GREATEST, [127, 255, 255, 255])]
STEPS = [(-128, 128), (-127, 129), (-3, 253), (-2, 254), (-1, 255), (0, 0), (1, 1), (126, 126), (127, 127)]


def first_cells():
    """Each first cell that begins a row: the row ahead of what its cells tell, near, and what stands behind it."""
    told = {98: (("back",), None, "none"), 99: (("stop",), None, "none"),
            80: (("jump",), True, "step"), 81: (("jump",), False, "place"),
            82: (("call",), True, "step"), 83: (("call",), False, "place")}
    for b in BOXES:
        told[16 + b] = (("set", b), None, "number")
        told[64 + b] = (("say", b), None, "none")
        told[68 + b] = (("ask", b), None, "none")
        told[84 + b] = (("jumpif", b), True, "step")
        told[88 + b] = (("jumpif", b), False, "place")
        told[100 + b] = (("jumpby", b), True, "step")
        told[104 + b] = (("jumpby", b), False, "place")
        told[144 + b] = (("alike", b), None, "places")
        for c in BOXES:
            told[32 + 4 * b + c] = (("add", b, c), None, "none")
            told[48 + 4 * b + c] = (("take", b, c), None, "none")
            told[112 + 4 * b + c] = (("load", b, c), True, "step")
            told[128 + 4 * b + c] = (("load", b, c), False, "place")
    return told


def rows_at(at):
    """Rows by places for the place at, of each kind, with near and their cells."""
    for cell, (ahead, near, behind) in first_cells().items():
        if behind == "none":
            yield ahead, near, [cell]
        if behind == "number":
            for number, cells in NUMBERS:
                yield ahead + (number,), near, [cell] + cells
        if behind == "place":
            for place, cells in PLACES:
                yield ahead + (place,), near, [cell] + cells
        if behind == "places":
            for place, cells in PLACES:
                for other, more in PLACES:
                    yield ahead + (place, other), near, [cell] + cells + more
        if behind == "step":
            for step, one in STEPS:
                if 0 <= at + 2 + step <= 65535:
                    yield ahead + (at + 2 + step,), near, [cell, one]


class Written(unittest.TestCase):
    def test_rows_as_they_stand_in_the_document(self):
        for row, at, near, cells in [
                (("set", 0, -5), 7, None, [16, 255, 255, 255, 251]), (("set", 3, 258), 0, None, [19, 0, 0, 1, 2]),
                (("add", 1, 2), 0, None, [38]), (("take", 3, 0), 9, None, [60]), (("say", 2), 0, None, [66]),
                (("ask", 1), 0, None, [69]), (("back",), 3, None, [98]), (("stop",), 3, None, [99]),
                (("alike", 2, 7, 9), 100, None, [146, 0, 7, 0, 9]), (("alike", 0, 513, 65535), 0, None, [144, 2, 1, 255, 255]),
                (("jump", 25), 500, False, [81, 0, 25]), (("jump", 25), 20, True, [80, 3]),
                (("call", 25), 25, True, [82, 254]), (("call", 300), 25, False, [83, 1, 44]),
                (("jumpif", 3, 10), 136, True, [87, 128]), (("jumpif", 1, 10), 137, False, [89, 0, 10]),
                (("jumpby", 2, 129), 0, True, [102, 127]), (("jumpby", 2, 130), 0, False, [106, 0, 130]),
                (("load", 0, 1, 300), 298, True, [113, 0]), (("load", 0, 1, 300), 0, False, [129, 1, 44]),
                (("load", 3, 2, 300), 299, True, [126, 255]), (("load", 3, 2, 300), 0, False, [142, 1, 44]),
                (("numbers", [3, -1]), 5, None, [0, 2, 0, 0, 0, 3, 255, 255, 255, 255]),
                (("table", [25, 31]), 5, None, [0, 2, 0, 25, 0, 31])]:
            with self.subTest(row):
                before = copy.deepcopy(row)
                self.assertEqual(cells_of(row, at, near), cells)
                self.assertIs(type(cells_of(row, at, near)), list)
                self.assertEqual(row, before)

    def test_each_kind_of_code_row_with_each_box(self):
        for at in (0, 1, 130, 300, 65533):
            for row, near, cells in rows_at(at):
                with self.subTest((row, at)):
                    self.assertEqual(cells_of(row, at, near), cells)

    def test_numbers(self):
        for number, cells in NUMBERS:
            self.assertEqual(cells_of(("numbers", [number]), 0, None), [0, 1] + cells)
            self.assertEqual(cells_of(("numbers", [7, number, -1]), 9, None), [0, 3, 0, 0, 0, 7] + cells + [255] * 4)
        self.assertEqual(cells_of(("numbers", [number for number, cells in NUMBERS]), 0, None),
                         [0, len(NUMBERS)] + sum([cells for number, cells in NUMBERS], []))
        self.assertEqual(cells_of(("numbers", [1] * 60), 0, None), [0, 60] + [0, 0, 0, 1] * 60)

    def test_tables(self):
        for place, cells in PLACES:
            self.assertEqual(cells_of(("table", [place]), 0, None), [0, 1] + cells)
            self.assertEqual(cells_of(("table", [7, place, 258]), 9, None), [0, 3, 0, 7] + cells + [1, 2])
        self.assertEqual(cells_of(("table", [258] * 60), 0, None), [0, 60] + [1, 2] * 60)

    def test_long_aims_and_places_do_not_hang_on_the_place(self):
        for at in (0, 1, 5000, 65535):
            self.assertEqual(cells_of(("jump", 5000), at, False), [81, 19, 136])
            self.assertEqual(cells_of(("alike", 1, at, 1), at, None), [145, at // 256, at % 256, 0, 1])
            self.assertEqual(cells_of(("table", [5000]), at, None), [0, 1, 19, 136])


class ReadBack(unittest.TestCase):
    def no_cells(self, asked, cells, at):
        before = list(cells)
        with self.assertRaises(NoCells) as caught:
            asked(cells, at)
        self.assertIs(type(caught.exception), NoCells)
        self.assertEqual(vars(caught.exception), {"place": at})
        self.assertEqual(cells, before)

    def no_cells_at_all(self, cells, at):
        for asked in (read_code, read_numbers, read_table):
            self.no_cells(asked, cells, at)


class Code(ReadBack):
    def told(self, cells, at, row, near, behind):
        before = list(cells)
        read = read_code(cells, at)
        self.assertEqual(read, (row, near, behind))
        self.assertIs(type(read), tuple)
        self.assertIs(type(read[0]), tuple)
        self.assertIs(read[1], near)
        self.assertEqual(cells, before)

    def test_each_row_from_its_cells_at_its_place(self):
        for at in (0, 1, 3, 130, 300):
            for ahead in (0, 99, 255):
                for row, near, cells in rows_at(at):
                    for more in ([], [99], [0, 255, 80]):
                        self.told([ahead] * at + cells + more, at, row, near, at + len(cells))

    def test_each_first_cell(self):
        firsts = first_cells()
        behinds = {"none": 0, "step": 1, "place": 2, "places": 4, "number": 4}
        for cell in range(256):
            with self.subTest(cell):
                if cell not in firsts:
                    for more in ([], [1], [0, 1], [0, 0, 0, 1], [0] * 300, [99] * 300):
                        self.no_cells(read_code, [cell] + more, 0)
                        self.no_cells(read_code, [99, cell] + more, 1)
                    continue
                ahead, near, kind = firsts[cell]
                count = behinds[kind]
                told = {"none": (), "step": (8,), "place": (258,), "places": (258, 772), "number": (16909060,)}[kind]
                more = [3] if kind == "step" else [1, 2, 3, 4][:count]
                self.told([99, 99, 99, cell] + more, 3, ahead + told, near, 4 + count)
                self.told([99, 99, 99, cell] + more + [7, 7], 3, ahead + told, near, 4 + count)
                for few in range(count):
                    self.no_cells(read_code, [99, 99, 99, cell] + more[:few], 3)

    def test_how_many_first_cells_begin_a_row(self):
        self.assertEqual(len(first_cells()), 16 * 4 + 4 * 8 + 6)

    def test_first_cells_that_are_no_cells(self):
        for cell in (-1, -255, 256, 256 + 99, 1000):
            self.no_cells(read_code, [cell, 0, 0, 0, 0], 0)

    def test_short_aims_below_0(self):
        for at in (0, 1, 50, 125):
            for first, row in ((80, ("jump",)), (82, ("call",)), (86, ("jumpif", 2)), (103, ("jumpby", 3)), (121, ("load", 2, 1))):
                for step in range(-128, 128):
                    cells = [99] * at + [first, step % 256]
                    if at + 2 + step < 0:
                        self.no_cells(read_code, cells, at)
                    else:
                        self.told(cells, at, row + (at + 2 + step,), True, at + 2)

    def test_short_aims_above_65535(self):
        cells = [99] * 65536
        for first, row in ((80, ("jump",)), (82, ("call",)), (84, ("jumpif", 0)), (100, ("jumpby", 0)), (127, ("load", 3, 3))):
            cells[65500] = first
            for step, right in ((33, True), (34, False), (127, False), (-128, True)):
                cells[65501] = step % 256
                if right:
                    self.told(cells, 65500, row + (65502 + step,), True, 65502)
                else:
                    self.no_cells(read_code, cells, 65500)

    def test_aims_need_not_lie_in_the_cells(self):
        self.told([80, 127], 0, ("jump", 129), True, 2)
        self.told([81, 255, 255], 0, ("jump", 65535), False, 3)
        self.told([144, 1, 0, 2, 0], 0, ("alike", 0, 256, 512), None, 5)

    def test_the_last_cell(self):
        self.told([0, 99], 1, ("stop",), None, 2)
        self.told([99] * 65535 + [98], 65535, ("back",), None, 65536)

    def test_places_that_are_none_of_the_cells(self):
        for cells in ([99], [99, 99], [99] * 5, [80, 0, 80, 0], [0, 0, 0, 0], [0, 1, 0, 1], [0, 1, 0, 0, 0, 5]):
            for at in (-1, -2, -len(cells), -len(cells) - 1, -100, len(cells), len(cells) + 1, len(cells) + 100, 65535):
                self.no_cells_at_all(cells, at)

    def test_no_cells(self):
        for at in (-1, 0, 1):
            self.no_cells_at_all([], at)

    def test_what_is_read_is_written_as_the_same_cells(self):
        chance = random.Random(3)
        firsts = sorted(first_cells())
        read = {}
        for turn in range(150):
            cells = [chance.choice(firsts) if chance.random() < 0.5 else chance.randint(0, 255) for number in range(60)]
            for at in range(60):
                try:
                    row, near, behind = read_code(cells, at)
                except NoCells as refusal:
                    self.assertEqual(refusal.place, at)
                    continue
                read[row[0]] = True
                self.assertEqual(cells_of(row, at, near), cells[at:behind])
                self.assertEqual(read_code([0] * at + cells_of(row, at, near), at), (row, near, behind))
        self.assertEqual(len(read), 13)


class Lists(ReadBack):
    def told(self, asked, cells, at, right, behind):
        before = list(cells)
        read = asked(cells, at)
        self.assertEqual(read, (right, behind))
        self.assertIs(type(read), tuple)
        self.assertIs(type(read[0]), list)
        self.assertEqual(cells, before)

    def test_numbers_from_their_cells_at_their_place(self):
        numbers = [number for number, cells in NUMBERS]
        for right in [[number] for number in numbers] + [numbers, numbers * 5, [0] * 60, [-1] * 59]:
            for at in (0, 1, 300):
                cells = cells_of(("numbers", right), at, None)
                self.assertEqual(len(cells), 2 + 4 * len(right))
                for more in ([], [0], [1, 2, 3, 4]):
                    self.told(read_numbers, [255] * at + cells + more, at, right, at + len(cells))

    def test_tables_from_their_cells_at_their_place(self):
        places = [place for place, cells in PLACES]
        for right in [[place] for place in places] + [places, places * 8, [0] * 60, [65535] * 59]:
            for at in (0, 1, 300):
                cells = cells_of(("table", right), at, None)
                self.assertEqual(len(cells), 2 + 2 * len(right))
                for more in ([], [0], [1, 2, 3, 4]):
                    self.told(read_table, [255] * at + cells + more, at, right, at + len(cells))

    def test_too_few_cells(self):
        for count in (1, 2, 3, 60):
            numbers = cells_of(("numbers", [16909060] * count), 0, None)
            table = cells_of(("table", [258] * count), 0, None)
            for ahead in ([], [0], [99, 99]):
                at = len(ahead)
                for few in range(len(numbers)):
                    self.no_cells(read_numbers, ahead + numbers[:few], at)
                for few in range(len(table)):
                    self.no_cells(read_table, ahead + table[:few], at)
        self.no_cells(read_numbers, [255, 255] + [0] * 1000, 0)
        self.no_cells(read_table, [255, 255] + [0] * 1000, 0)

    def test_how_many_is_told_by_two_cells(self):
        self.told(read_numbers, [1, 0] + [0, 0, 1, 0] * 256, 0, [256] * 256, 1026)
        self.told(read_table, [1, 1] + [1, 0] * 257, 0, [256] * 257, 516)
        self.no_cells(read_numbers, [1, 0] + [0, 0, 1, 0] * 255 + [0, 0, 1], 0)
        self.no_cells(read_table, [1, 1] + [1, 0] * 256 + [1], 0)

    def test_none_of_them(self):
        self.told(read_numbers, [0, 0], 0, [], 2)
        self.told(read_table, [9, 0, 0, 9], 1, [], 3)

    def test_a_place_below_0_is_none_though_cells_are_there(self):
        cells = [0, 1, 0, 0, 0, 1, 0, 1, 0, 1]
        for at in range(-12, 0):
            self.no_cells_at_all(cells, at)


class TheAskersOwn(unittest.TestCase):
    def test_what_is_told_is_new(self):
        row = ("numbers", [1])
        cells = cells_of(row, 0, None)
        row[1].append(2)
        self.assertEqual(cells, [0, 1, 0, 0, 0, 1])
        cells.clear()
        self.assertEqual(cells_of(("numbers", [1]), 0, None), [0, 1, 0, 0, 0, 1])
        for row, near in ((("stop",), None), (("jump", 5), True), (("set", 0, 1), None)):
            right = list(cells_of(row, 0, near))
            cells_of(row, 0, near).append(7)
            cells_of(row, 0, near).clear()
            self.assertEqual(cells_of(row, 0, near), right)

    def test_what_is_read_is_new(self):
        cells = [0, 1, 0, 0, 0, 1]
        told = read_numbers(cells, 0)
        cells[5] = 2
        self.assertEqual(told, ([1], 6))
        told[0].clear()
        self.assertEqual(read_numbers(cells, 0), ([2], 6))
        self.assertEqual(cells, [0, 1, 0, 0, 0, 2])
        cells = [0, 1, 0, 9]
        told = read_table(cells, 0)
        cells[3] = 8
        self.assertEqual(told, ([9], 4))
        told[0].clear()
        self.assertEqual(read_table(cells, 0), ([8], 4))


class Interface(unittest.TestCase):
    def test_the_arguments_have_their_names(self):
        self.assertEqual(cells_of(row=("jump", 25), at=20, near=True), [80, 3])
        self.assertEqual(read_code(cells=[99], at=0), (("stop",), None, 1))
        self.assertEqual(read_numbers(cells=[0, 0], at=0), ([], 2))
        self.assertEqual(read_table(cells=[0, 0], at=0), ([], 2))


if __name__ == "__main__":
    unittest.main()
