"""Promises 42 and 43 (with 4, 9 to 11 and 21), and of promise 2 that what is told is the asker's own."""

import copy
import itertools
import random
import unittest

from farjump.cells import cells_of
from farjump.errors import NoCells
from farjump.laid import laid
from farjump.layout import least_layout
from farjump.machine import run_cells
from farjump.names import bound
from farjump.runner import run_names
from tests.helper import HUGE, Refusals, code_names, lively_parts

BOXES = [0, 1, 2, 3]
BASES = [0, 1, 64, 255, 256, 1000, 65000]
LEAST = -2147483648
GREATEST = 2147483647
STOP = 99
BACK = 98


def at(place):
    return [place // 256, place % 256]


def step(number):
    return number % 256


def ask(box):
    return 68 + box


def say(*boxes):
    return [64 + box for box in boxes]


def setting(box, number):
    return [16 + box] + list((number % 2 ** 32).to_bytes(4, "big"))


def listed(*numbers):
    return at(len(numbers)) + [cell for number in numbers for cell in (number % 2 ** 32).to_bytes(4, "big")]


def table(*places):
    return at(len(places)) + [cell for place in places for cell in at(place)]


class Machine(Refusals):
    def told(self, cells, answers, end, inputs=(), steps=500, base=0, place=None):
        place = base if place is None else place
        given = (list(cells), base, place, list(inputs), steps)
        before = copy.deepcopy(given)
        ran = run_cells(*given)
        self.assertEqual(ran, (answers, end))
        self.assertEqual((type(ran), type(ran[0])), (tuple, list))
        self.assertEqual(given, before)

    def bounds(self, cells, answers, end, rows, inputs=(), base=0):
        """The run does just so many rows: with each bound below that it ends by the bound."""
        for steps in (rows, rows + 1, 500):
            self.told(cells, answers, end, inputs, steps, base)
        self.told(cells, [], "steps", inputs, 0, base)
        for steps in range(rows):
            so_far, word = run_cells(cells, base, base, list(inputs), steps)
            self.assertEqual((so_far, word), (answers[:len(so_far)], "steps"), steps)

    def no_cells(self, cells, place, inputs=(), base=0, start=None, rows=1):
        """It is refused at the row of this number, and not with a bound that lies ahead of it."""
        start = base if start is None else start
        for steps in (rows, rows + 1, 500):
            self.assertEqual(self.refused(NoCells, run_cells, (cells, base, start, list(inputs), steps)), {"place": place})
        for steps in range(rows):
            self.assertEqual(run_cells(cells, base, start, list(inputs), steps)[1], "steps")


class EachRow(Machine):
    def test_all_boxes_are_0_at_first(self):
        for base in BASES:
            self.told(say(0, 1, 2, 3) + [STOP], [0, 0, 0, 0], "stop", base=base)

    def test_set(self):
        for box in BOXES:
            for number in (LEAST, -1, 0, 1, 255, 256, 65536, GREATEST):
                right = [0, 0, 0, 0]
                right[box] = number
                self.told(setting(box, 7) + setting(box, number) + say(0, 1, 2, 3) + [STOP], right, "stop")

    def test_add_and_take(self):
        at_first = [5, -7, 1000, 3]
        sets = [cell for box, number in enumerate(at_first) for cell in setting(box, number)]
        for one, other in itertools.product(BOXES, BOXES):
            right = list(at_first)
            right[one] = at_first[one] + at_first[other]
            self.told(sets + [32 + 4 * one + other] + say(0, 1, 2, 3) + [STOP], right, "stop", base=77)
            right[one] = at_first[one] - at_first[other]
            self.told(sets + [48 + 4 * one + other] + say(0, 1, 2, 3) + [STOP], right, "stop", base=77)

    def test_ask_takes_the_inputs_in_their_order(self):
        for box in BOXES:
            self.told([ask(box), 64 + box, ask(box), 64 + box, STOP], [HUGE, -HUGE], "stop", [HUGE, -HUGE, 4])
        for base in BASES:
            self.told([68, 32, 64, 80, step(-5)], [14, -16, 2 * HUGE], "ask", [7, -8, HUGE], base=base)

    def test_boxes_hold_numbers_of_any_size(self):
        answers = [HUGE * 2 ** k for k in range(1, 167)]
        for base in BASES:
            self.told([68, 32, 64, 80, step(-4)], answers, "steps", [HUGE], base=base)

    def test_jump_short(self):
        for base in BASES:
            self.told([80, 2, 64, STOP, 65, 67, STOP], [0, 0], "stop", base=base)
            self.told([STOP, 80, step(-3)], [], "stop", base=base, place=base + 1)
            self.told([64, STOP, 80, step(-4)], [0], "stop", base=base, place=base + 2)
            self.told([80, step(-2)], [], "steps", base=base)
            self.told([80, 0, STOP], [], "stop", base=base)

    def test_jump_short_as_far_as_can_be(self):
        for base in BASES[:-1]:
            self.told([80, 127] + [98] * 127 + [64, STOP], [0], "stop", base=base)
            self.told([64, STOP] + [98] * 124 + [80, 128], [0], "stop", base=base, place=base + 126)

    def test_jump_long(self):
        for base in BASES:
            self.told([81] + at(base + 4) + [64, 65, 66, STOP], [0, 0], "stop", base=base)
            self.told([64, STOP, 81] + at(base), [0], "stop", base=base, place=base + 2)
            self.told([81] + at(base), [], "steps", base=base)

    def test_jumpif(self):
        for base in BASES:
            for box in BOXES:
                short = [ask(box), 84 + box, 2, 64 + box, STOP, 64 + box, 64 + box, STOP]
                long = [ask(box), 88 + box] + at(base + 6) + [64 + box, STOP, 64 + box, 64 + box, STOP]
                for cells in (short, long):
                    self.told(cells, [0], "stop", [0], base=base)
                    for number in (1, -1, HUGE, -HUGE):
                        self.told(cells, [number, number], "stop", [number], base=base)

    def test_jumpif_looks_at_its_own_box(self):
        for box, other in itertools.product(BOXES, BOXES):
            for cells in ([84 + box, 1, STOP, 64, STOP], [88 + box, 0, 9, STOP, 64, STOP]):
                cells = setting(other, 1) + cells
                self.told(cells, [int(other == 0)] if box == other else [], "stop")

    def test_call_and_back(self):
        for base in BASES:
            self.told([82, 2, 64, STOP] + setting(0, 3) + [BACK], [3], "stop", base=base)
            self.told([83] + at(base + 5) + [64, STOP] + setting(0, 3) + [BACK], [3], "stop", base=base)
            self.told(setting(0, 3) + [BACK, 82, step(-8), 64, STOP], [3], "stop", base=base, place=base + 6)

    def test_calls_within_calls_come_back_in_turn(self):
        for base in BASES:
            cells = [82, 2, 64, STOP, 82, 2, 65, BACK] + setting(0, 8) + setting(1, 9) + [66, BACK]
            self.told(cells, [0, 9, 8], "stop", base=base)

    def test_load(self):
        for base in BASES:
            for one, other in itertools.product(BOXES, BOXES):
                short = [ask(other), 112 + 4 * one + other, 2, 64 + one, STOP] + listed(5, LEAST, GREATEST, -1)
                long = [ask(other), 128 + 4 * one + other] + at(base + 6) + [64 + one, STOP] + listed(5, LEAST, GREATEST, -1)
                for cells in (short, long):
                    for number, right in enumerate((5, LEAST, GREATEST, -1)):
                        self.told(cells, [right], "stop", [number], base=base)
                    for number in (-1, -4, 4, 5, HUGE, -HUGE):
                        self.told(cells, [], "place", [number], base=base)

    def test_load_changes_its_box_alone(self):
        self.told(setting(1, 2) + [112 + 1, 5] + say(0, 1, 2, 3) + [STOP] + listed(7, 8, 9), [9, 2, 0, 0], "stop")

    def test_jumpby(self):
        for base in BASES:
            for box in BOXES:
                rows = [64 + box, STOP, 64 + box, 64 + box, STOP]
                short = [ask(box), 100 + box, 5] + rows + table(base + 5, base + 3, base + 5)
                long = [ask(box), 104 + box] + at(base + 9) + rows + table(base + 6, base + 4, base + 6)
                for cells in (short, long):
                    for number, right in enumerate(([0, 0], [1], [2, 2])):
                        self.told(cells, right, "stop", [number], base=base)
                    for number in (-1, -3, 3, 4, HUGE, -HUGE):
                        self.told(cells, [], "place", [number], base=base)

    def test_alike(self):
        for base in BASES:
            for box in BOXES:
                for one, other, right in ((7, 7, 1), (7, 8, 0), (0, 0, 1), (65535, 65535, 1), (256, 1, 0), (0, 65535, 0)):
                    cells = setting(box, 5) + [144 + box] + at(one) + at(other) + [64 + box, STOP]
                    self.told(cells, [right], "stop", base=base)

    def test_numbers_and_tables_amid_other_cells(self):
        # What is read hangs on the cells alone, whatever rows they belong to.
        self.told([112, 3, 64, STOP, 77, 0, 1, 0, 0, 1, 4], [260], "stop")
        self.told([16, 0, 1, 0, 0, 112, step(-6), 64, STOP], [112 * 256 + 250], "stop", place=5)
        self.told([64, STOP, 16, 0, 1, 0, 0, 100, step(-6)], [0], "stop", place=7)
        self.told([64, STOP, 77, 0, 1, 0, 0, 78, 104, 0, 3], [0], "stop", place=8)

    def test_a_list_of_none_has_no_place(self):
        self.told([112, 1, STOP, 0, 0], [], "place")
        self.told([100, 0, 0, 0], [], "place")

    def test_starts_within_the_cells(self):
        for base in BASES:
            cells = [64, 65, STOP, 82, step(-5), STOP]
            self.told(cells, [0], "stop", base=base, place=base + 1)
            self.told(cells, [], "stop", base=base, place=base + 2)
            self.told(cells, [0, 0], "stop", base=base, place=base + 3)

    def test_rows_may_be_read_amid_others(self):
        # The number of the set is done as rows, where a jump leads into it.
        self.told(setting(0, 64 * 2 ** 24 + 65 * 2 ** 16 + 67 * 2 ** 8 + 99) + [80, step(-6)], [0, 0, 0], "stop", place=1)
        self.told(setting(0, 64 * 2 ** 24 + 65 * 2 ** 16 + 67 * 2 ** 8 + 99) + [80, step(-6)],
                  [64 * 2 ** 24 + 65 * 2 ** 16 + 67 * 2 ** 8 + 99, 0, 0], "stop")


class Ends(Machine):
    def test_stop(self):
        for base in BASES:
            self.bounds([STOP], [], "stop", 1, base=base)
            self.bounds([64] + setting(0, 3) + [64, STOP], [0, 3], "stop", 4, base=base)
            self.bounds([64, 80, 1, 77, STOP], [0], "stop", 3, base=base)

    def test_ask(self):
        self.bounds([68, STOP], [], "ask", 1)
        for base in BASES:
            self.bounds([68, 64, 81] + at(base), [4, 5], "ask", 7, [4, 5], base=base)

    def test_place(self):
        for base in BASES:
            for number in (-1, 2):
                self.bounds(setting(1, number) + [65, 112 + 1, 1, STOP] + listed(7, 8), [number], "place", 3, base=base)
                self.bounds(setting(1, number) + [65, 129] + at(base + 10) + [STOP] + listed(7, 8), [number], "place", 3, base=base)
                self.bounds(setting(1, number) + [65, 101, 1, STOP] + table(base, base), [number], "place", 3, base=base)
                self.bounds(setting(1, number) + [65, 105] + at(base + 10) + [STOP] + table(base, base), [number], "place", 3, base=base)

    def test_deep(self):
        for base in BASES:
            self.bounds([82, step(-2), STOP], [], "deep", 41, base=base)
            self.bounds([83] + at(base) + [STOP], [], "deep", 41, base=base)
            cells = setting(1, 1) + [33, 64, 83] + at(base) + [STOP]
            self.bounds(cells, list(range(1, 42)), "deep", 164, base=base)

    def test_forty_kept_rows_and_one_more(self):
        cells = [68] + setting(1, 1) + [82, 2, 65, STOP] + [49, 84, 1, BACK, 82, step(-6), 64, BACK]
        for kept in (1, 2, 39, 40):
            self.told(cells, [0] * (kept - 1) + [1], "stop", [kept], base=300)
        for kept in (41, 42):
            self.told(cells, [], "deep", [kept], base=300)

    def test_what_was_taken_off_counts_no_more(self):
        cells = [68] + setting(1, 1) + [82, 5, 49, 84, step(-5), 64, STOP, BACK]
        self.told(cells, [0], "stop", [100])

    def test_empty(self):
        self.bounds([BACK], [], "empty", 1)
        self.bounds([67, 82, 1, BACK, 66, BACK], [0, 0], "empty", 5)
        self.bounds([80, 0, BACK], [], "empty", 2)

    def test_steps(self):
        for base in BASES:
            for steps in (0, 1, 2, 3, 499, 500):
                self.told([80, step(-2)], [], "steps", steps=steps, base=base)
                self.told([64, 81] + at(base), [0] * ((steps + 1) // 2), "steps", steps=steps, base=base)

    def test_the_bound_is_looked_at_ahead_of_each_row(self):
        for cell, word in ((STOP, "stop"), (BACK, "empty"), (68, "ask")):
            self.told([64, cell], [0], "steps", steps=1)
            self.told([64, cell], [0], word, steps=2)


class NoSuchCells(Machine):
    def test_first_cells_that_are_none(self):
        known = {16 + n for n in range(4)} | {n for n in range(32, 72)} | set(range(80, 92)) | {98, 99} | set(range(100, 108))
        known |= set(range(112, 148))
        for cell in range(256):
            cells = [64] + [cell] + [0, 0, 0, 0, 0, 0]
            for base in (0, 500):
                if cell not in known:
                    self.no_cells(cells, base + 1, base=base, rows=2)
                    self.no_cells(cells, base + 1, base=base, start=base + 1)
                elif cell < 100 or cell >= 144:
                    self.assertIn(run_cells(cells, base, base + 1, [], 1)[1], ("steps", "stop", "ask", "empty"))

    def test_too_few_cells_behind(self):
        rows = [("set", 1, 5), ("jump", 700), ("call", 700), ("jumpif", 2, 700), ("jumpby", 0, 700), ("load", 1, 2, 700), ("alike", 3, 1, 2)]
        for row in rows:
            for near in (True, False) if row[0] not in ("set", "alike") else (None,):
                cells = cells_of(row, 699, near)
                for count in range(1, len(cells)):
                    for base in (0, 300):
                        self.no_cells([64] + cells[:count], base + 1, base=base, rows=2)
                        self.no_cells(cells[:count], base, base=base)

    def test_places_that_are_none_of_the_cells(self):
        for base in BASES:
            for start in (base - 1, base - 100, base + 2, base + 3, base + 300, -1, -base - 1, HUGE, -HUGE):
                self.no_cells([64, STOP], start, base=base, start=start)
            self.no_cells([], base, base=base)
        for base in BASES[1:]:
            self.no_cells([64, STOP], 0, base=base, start=0)

    def test_a_row_that_runs_out_of_the_cells(self):
        for base in BASES:
            self.no_cells([64], base + 1, base=base, rows=2)
            self.no_cells(setting(0, 4) + [64], base + 6, base=base, rows=3)
            self.no_cells([84, 0], base + 2, base=base, rows=2)
            self.no_cells([88] + at(base), base + 3, base=base, rows=2)

    def test_where_a_jump_leads(self):
        for base in (256, 1000, 65000):
            for place in (0, base - 1, base + 8, base + 9, 65535):
                self.no_cells([81] + at(place) + [STOP] * 5, place, base=base, rows=2)
                self.no_cells([83] + at(place) + [STOP] * 5, place, base=base, rows=2)
                self.no_cells(setting(3, 1) + [91] + at(place), place, base=base, rows=3)
            self.no_cells([80, 1, STOP], base + 3, base=base, rows=2)
            self.no_cells([82, 127, STOP], base + 129, base=base, rows=2)
            self.no_cells(setting(1, 1) + [85, 4, STOP], base + 11, base=base, rows=3)

    def test_where_a_back_leads(self):
        for base in BASES:
            self.no_cells([BACK, 82, step(-3)], base + 3, base=base, start=base + 1, rows=3)
            self.no_cells([BACK, 83] + at(base), base + 4, base=base, start=base + 1, rows=3)
            self.no_cells([BACK, 82, step(-3), 7], base + 3, base=base, start=base + 1, rows=3)

    def test_where_a_load_or_a_jumpby_leads(self):
        for base in (256, 1000, 65000):
            for first in (128, 104):
                for place in (0, base - 1, base - 2, base + 3, base + 4, 65535):
                    self.no_cells([first] + at(place), place, base=base)
                # At the last cell there is one too few for a count.
                self.no_cells([first] + at(base + 3) + [0], base + 3, base=base)
            for first in (112, 100):
                for number in (1, 2, 127):
                    self.no_cells([first, number, STOP], base + 2 + number, base=base)
                self.no_cells([first, 0, 0], base + 2, base=base)

    def test_numbers_and_tables_with_too_few_cells(self):
        for base in BASES:
            numbers = listed(5, 6)
            for count in range(len(numbers)):
                self.no_cells([112, 1, STOP] + numbers[:count], base + 3, base=base)
            places = table(base, base)
            for count in range(len(places)):
                self.no_cells([100, 1, STOP] + places[:count], base + 3, base=base)
            self.told([112, 1, STOP] + numbers, [], "stop", base=base)

    def test_it_is_refused_also_where_the_place_is_none(self):
        # No list can be read, so none has a place.
        for number in (-1, 0, 5, HUGE):
            self.no_cells([68, 112, 127, STOP], 130, [number], rows=2)
            self.no_cells([68, 100, 127, STOP], 130, [number], rows=2)

    def test_where_a_place_of_a_table_leads(self):
        for base in (256, 1000):
            for place in (0, base - 1, base + 6, 65535):
                self.no_cells([100, 0] + table(place), place, base=base, rows=2)

    def test_a_place_of_a_table_that_is_not_gone_to_is_not_looked_at(self):
        self.told([100, 1, STOP] + table(1002, 0, 65535), [], "stop", base=1000)

    def test_a_short_aim_ahead_of_the_first_cell(self):
        for base in BASES:
            for first in (80, 82, 84, 87, 100, 103, 112, 127):
                for number in (-3, -4, -128):
                    self.no_cells([first, step(number), STOP], base, base=base)
                    self.no_cells([64, first, step(number - 1 if number > -128 else number), STOP], base + 1, base=base, rows=2)

    def test_a_short_aim_at_the_first_cell_can_be_read(self):
        for base in BASES:
            self.told([80, step(-2)], [], "steps", base=base)
            self.told([STOP, 80, step(-3)], [], "stop", base=base, place=base + 1)
            self.told([84, step(-2), STOP], [], "stop", base=base)

    def test_aims_that_are_not_gone_to_are_not_looked_at(self):
        for base in BASES:
            self.told([84, 127, STOP], [], "stop", base=base)
            self.told([88, 255, 255, STOP], [], "stop", base=base)
            self.told([88, 0, 0, STOP], [], "stop", base=base)

    def test_what_is_answered_by_then_is_not_told(self):
        told = self.refused(NoCells, run_cells, ([64, 64, 64, 7], 5, 5, [], 500))
        self.assertEqual(told, {"place": 8})

    def test_an_end_goes_ahead_of_what_cannot_be_read_behind_it(self):
        self.told([STOP], [], "stop")
        self.told([BACK, 7], [], "empty")
        self.told([68, 7], [], "ask")
        self.told([82, step(-2)], [], "deep")


class TheAskersOwn(Machine):
    def test_the_answers_are_a_new_list(self):
        cells, inputs = [68, 64, STOP], [3]
        first = run_cells(cells, 0, 0, inputs, 500)
        first[0].append(9)
        second = run_cells(cells, 0, 0, inputs, 500)
        self.assertEqual(second, ([3], "stop"))
        second[0].clear()
        self.assertEqual((cells, inputs), ([68, 64, STOP], [3]))
        self.told(cells, [3], "stop", inputs)

    def test_what_is_changed_later_changes_nothing(self):
        cells, inputs = [68, 64, STOP], [3]
        ran = run_cells(cells, 0, 0, inputs, 500)
        cells[1] = 65
        inputs[0] = 4
        self.assertEqual(ran, ([3], "stop"))
        self.assertEqual(run_cells(cells, 0, 0, inputs, 500), ([0], "stop"))

    def test_the_arguments_have_their_names(self):
        self.assertEqual(run_cells(cells=[64, STOP], base=7, place=8, inputs=[], steps=1), ([], "stop"))


def plain_machine(cells, base, place, inputs, steps):
    """Done otherwise than by the program: all cells by their places, each first cell looked at by itself."""
    held = {base + number: cell for number, cell in enumerate(cells)}
    box, kept, answers, left = [0] * 4, [], [], list(inputs)

    def two(first):
        return held[first] * 256 + held[first + 1]

    def four(first):
        number = two(first) * 65536 + two(first + 2)
        return number - 2 ** 32 if number >= 2 ** 31 else number

    def listed_at(first, width):
        # The last cell is looked at, too: all of them have to be there.
        count = two(first)
        held[first + 1 + width * count]
        return [(four if width == 4 else two)(first + 2 + width * number) for number in range(count)]

    def aim(short):
        if not short:
            return two(place + 1), place + 3
        near = held[place + 1]
        if place + 2 + (near if near < 128 else near - 256) < base:
            raise KeyError(place)
        return place + 2 + (near if near < 128 else near - 256), place + 2

    while steps:
        steps -= 1
        looked = place
        try:
            cell = held[place]
            if 16 <= cell < 20:
                box[cell - 16] = four(place + 1)
                place += 5
            elif 32 <= cell < 64:
                one, other = cell % 16 // 4, cell % 4
                box[one] += box[other] if cell < 48 else -box[other]
                place += 1
            elif 64 <= cell < 68:
                answers.append(box[cell - 64])
                place += 1
            elif 68 <= cell < 72:
                if not left:
                    return answers, "ask"
                box[cell - 68] = left.pop(0)
                place += 1
            elif cell in (80, 81):
                place = aim(cell == 80)[0]
            elif cell in (82, 83):
                to, behind = aim(cell == 82)
                if len(kept) == 40:
                    return answers, "deep"
                kept.append(behind)
                place = to
            elif 84 <= cell < 92:
                to, behind = aim(cell < 88)
                place = to if box[cell % 4] else behind
            elif cell == 98:
                if not kept:
                    return answers, "empty"
                place = kept.pop()
            elif cell == 99:
                return answers, "stop"
            elif 100 <= cell < 108:
                looked = aim(cell < 104)[0]
                to = listed_at(looked, 2)
                if not 0 <= box[cell % 4] < len(to):
                    return answers, "place"
                place = to[box[cell % 4]]
            elif 112 <= cell < 144:
                looked, behind = aim(cell < 128)
                numbers = listed_at(looked, 4)
                if not 0 <= box[cell % 4] < len(numbers):
                    return answers, "place"
                box[cell % 16 // 4] = numbers[box[cell % 4]]
                place = behind
            elif 144 <= cell < 148:
                box[cell - 144] = int(two(place + 1) == two(place + 3))
                place += 5
            else:
                return "refused", place
        except KeyError:
            return "refused", looked
    return answers, "steps"


def any_cells(chance, base, count):
    """Rows by chance, with aims that mostly lie among the cells, and some cells that are none."""
    cells = []
    while len(cells) < count:
        box, other = chance.randrange(4), chance.randrange(4)
        place = at(max(0, min(65535, base + chance.randint(-1, count))))
        near = [chance.choice([0, 1, 2, 3, 5, 8, 253, 250, 245, 240, 230])]
        cells += chance.choice([
            setting(box, chance.randint(-1, 3)), [32 + 4 * box + other], [48 + 4 * box + other], [64 + box], [64 + box], [68 + box],
            [80] + near, [81] + place, [82] + near, [83] + place, [84 + box] + near, [88 + box] + place, [84 + box] + near,
            [88 + box] + place, [98], [98], [99] if chance.random() < 0.3 else [64 + box], [100 + box] + near, [104 + box] + place,
            [112 + 4 * box + other] + near, [128 + 4 * box + other] + place, [144 + box] + place + place, [144 + box] + place + at(base),
            [82, 254], listed(*[chance.randint(-1, 3) for turn in range(3)]), table(base, base + chance.randrange(count)),
            [chance.randrange(256)] if chance.random() < 0.3 else [64 + box]])
    return cells


class AgainstAnotherMachine(Machine):
    def test_any_cells(self):
        chance = random.Random(42)
        ends = {}
        for turn in range(6000):
            base = chance.choice([0, 1, 64, 777, 40000])
            cells = any_cells(chance, base, chance.randint(1, 60))
            place = base + chance.choice([0, 0, chance.randrange(len(cells))])
            inputs = [chance.randint(-1, 3) for number in range(chance.randint(0, 6))]
            steps = chance.choice([0, 1, 2, 5, 20, 100, 500])
            right = plain_machine(cells, base, place, inputs, steps)
            if right[0] == "refused":
                self.assertEqual(self.refused(NoCells, run_cells, (cells, base, place, inputs, steps)), {"place": right[1]})
            else:
                self.told(cells, right[0], right[1], inputs, steps, base, place)
            word = right[0] if right[0] == "refused" else right[1]
            ends[word] = ends.get(word, 0) + 1
        self.assertEqual(sorted(ends), ["ask", "deep", "empty", "place", "refused", "steps", "stop"])
        self.assertGreater(min(ends.values()), 20)


class WhatIsLaid(Machine):
    def test_it_does_what_the_runner_does(self):
        chance = random.Random(43)
        kinds, ends = {}, {}
        for turn in range(150):
            parts = lively_parts(chance)
            border = chance.choice([1, 2, 7, 64])
            base = border * chance.choice([0, 1, 9, 400])
            image = laid(parts, base, border)
            last = 65536 - base - len(image.cells())
            images = [image, image.moved(-base), image.moved(3 * border), image.moved(last // border * border)]
            images.append(images[2].moved(-2 * border).moved(border))
            for row in [row for part, rows in parts for row in rows]:
                kinds[row[0]] = True
            for start in code_names(parts):
                inputs = [chance.randint(-1, 4) for number in range(chance.randint(0, 9))]
                for steps in (500, chance.randint(0, 30)):
                    right = run_names(parts, start, inputs, steps)
                    ends[right[1]] = ends.get(right[1], 0) + 1
                    for one in images:
                        told = run_cells(one.cells(), one.base(), one.place_of(start), inputs, steps)
                        self.assertEqual(told, right)
        self.assertEqual(sorted(ends), ["ask", "deep", "empty", "place", "steps", "stop"])
        self.assertGreater(min(ends.values()), 100)
        self.assertEqual(len(kinds), 16)

    def test_with_each_bound(self):
        chance = random.Random(44)
        for turn in range(20):
            parts = lively_parts(chance, 2)
            image = laid(parts, 192, 64)
            start = chance.choice(code_names(parts))
            for steps in range(0, 60):
                right = run_names(parts, start, [1, 2, 0, 3], steps)
                self.assertEqual(run_cells(image.cells(), 192, image.place_of(start), [1, 2, 0, 3], steps), right)

    def test_at_the_very_end_of_all_places(self):
        parts = [("a", [("mark", "s", True), ("ask", 0), ("jumpby", 0, "t"), ("mark", "x", True), ("say", 0), ("load", 1, 0, "n"),
                        ("say", 1), ("stop",), ("mark", "n", True), ("numbers", [4, -5]), ("mark", "t", True), ("table", ["x", "x", "s"])])]
        end = 65536 - len(laid(parts).cells())
        for base in (0, end):
            cells = laid(parts, base).cells()
            for inputs in ([0], [1], [2], [2, 1], [3], [-1], []):
                self.assertEqual(run_cells(cells, base, base, inputs, 500), run_names(parts, "s", inputs, 500))
        self.assertEqual(run_cells(cells, end, end, [2, 1], 500), ([1, -5], "stop"))

    def test_the_rows_are_short_and_long(self):
        # So that the runs above are known to go over both.
        chance = random.Random(43)
        seen = {}
        for turn in range(150):
            parts = lively_parts(chance)
            layout = least_layout(parts, 1)
            for part, rows in bound(parts):
                seen.update({(row[0], length): True for row, length in zip(rows, layout[part])})
        for kind in ("jump", "jumpif", "call", "load", "jumpby"):
            self.assertIn((kind, 2), seen)
            self.assertIn((kind, 3), seen)


if __name__ == "__main__":
    unittest.main()
