"""Promises 27 and 28 (with 22, 23 and 24: what a right layout is), and of promise 2 that nothing handed in is changed."""

import copy
import itertools
import random
import unittest

from farjump.checking import wrong_in
from farjump.errors import BadBase, NoLayout
from farjump.layout import least_layout
from tests.helper import AIMING, HUGE, NO_BORDERS, STOP, WRONG_PARTS, Refusals, filled, mark

ROWS_WITH_AIMS = ("jump", "jumpif", "call", "load", "jumpby")

# One part with a row of each kind, each with the length that it may have, or 2 where it may have 3, too.
EACH_KIND = [
    (("mark", "m", True), None), (("set", 1, 5), 5), (("add", 1, 2), 1), (("take", 1, 2), 1), (("say", 1), 1), (("ask", 1), 1),
    (("alike", 1, "m", "l"), 5), (("jumpif", 0, "m"), 2), (("call", "m"), 2), (("load", 0, 1, "l"), 2), (("jumpby", 3, "t"), 2),
    (("mark", "u", False), None), (("jump", "u"), 2), (("back",), 1), (("stop",), 1), (("mark", "l", True), None),
    (("numbers", [1, 2, 3]), 14), (("mark", "t", True), None), (("table", ["m", "u"]), 6)]
EACH_ROW = [row for row, length in EACH_KIND]
EACH_LENGTH = [length for row, length in EACH_KIND if length is not None]


def filled_with_lengths(cells):
    rows = filled(cells)
    return rows, [2 + 4 * len(row[1]) if row[0] == "numbers" else 1 for row in rows]


class Looks(Refusals):
    def told(self, parts, border, layout, right):
        """Whatever the order of the parts and of the layout."""
        for some in (parts, parts[::-1], parts[1:] + parts[:1]):
            for lengths in (layout, dict(sorted(layout.items())), dict(reversed(layout.items()))):
                before = copy.deepcopy((some, lengths))
                told = wrong_in(some, border, lengths)
                self.assertEqual(told, right)
                if right is not None:
                    self.assertIs(type(told), tuple)
                self.assertEqual((some, lengths), before)
                self.assertEqual(list(lengths), list(before[1]))


class RightLayouts(Looks):
    def test_one_with_a_row_of_each_kind(self):
        for border in (1, 2, 64):
            self.told([("p", EACH_ROW)], border, {"p": EACH_LENGTH}, None)

    def test_any_near_row_may_be_long_too(self):
        may = [number for number, length in enumerate(EACH_LENGTH) if length == 2]
        self.assertEqual(len(may), 5)
        for picked in itertools.product((2, 3), repeat=5):
            layout = {"p": list(EACH_LENGTH)}
            for number, length in zip(may, picked):
                layout["p"][number] = length
            self.told([("p", EACH_ROW)], 1, layout, None)

    def test_the_least_layout_is_right(self):
        chance = random.Random(61)
        for turn in range(100):
            parts = any_parts(chance)
            border = chance.choice([1, 2, 9, 33, 64])
            self.told(parts, border, least_layout(parts, border), None)

    def test_one_that_is_shorter_than_the_least_one_is_wrong(self):
        chance = random.Random(62)
        seen = 0
        for turn in range(200):
            parts = any_parts(chance)
            border = chance.choice([1, 2, 9, 33, 64])
            layout = least_layout(parts, border)
            longs = [(part, k) for part in layout for k, length in enumerate(layout[part]) if length == 3]
            for part, number in longs:
                shorter = copy.deepcopy(layout)
                shorter[part][number] = 2
                self.assertIsNotNone(wrong_in(parts, border, shorter))
                seen += 1
        self.assertGreater(seen, 50)


class Lengths(Looks):
    def test_lengths_that_a_row_may_not_have(self):
        for number, right in enumerate(EACH_LENGTH):
            may = (2, 3) if right == 2 else (right,)
            for length in (0, 1, 2, 3, 4, 5, 6, 7, 13, 14, 15, 255, -1, -2, -3, -5, right - 1, right + 1, right + 2, HUGE, -HUGE):
                layout = {"p": list(EACH_LENGTH)}
                layout["p"][number] = length
                if length in may:
                    self.told([("p", EACH_ROW)], 1, layout, None)
                else:
                    # Rows ahead of it may have become far by the wrong length: those are wrong, and come first.
                    told = wrong_in([("p", EACH_ROW)], 1, layout)
                    self.assertLessEqual(told[1], number)
                    self.assertEqual(told, right_answer([("p", EACH_ROW)], 1, layout))
                    if -100 < length < 100:
                        self.told([("p", EACH_ROW)], 1, layout, ("p", number))

    def test_three_cells_of_a_row_that_may_have_five_alone(self):
        for row in (("set", 0, 0), ("alike", 0, "m", "m")):
            parts = [("a", [mark("m"), row, STOP])]
            for length in (2, 3, 4, 6, 0):
                self.told(parts, 1, {"a": [length, 1]}, ("a", 0))
            self.told(parts, 1, {"a": [5, 1]}, None)

    def test_numbers_and_tables_by_how_many_they_have(self):
        for count in (1, 2, 3, 59, 60):
            parts = [("a", [mark("m"), STOP, ("numbers", [0] * count), ("table", ["m"] * count)])]
            self.told(parts, 1, {"a": [1, 2 + 4 * count, 2 + 2 * count]}, None)
            for number in (1, 2):
                for other in (2, 4 * count, 2 * count, count, 1 + 4 * count, 3 + 4 * count, 1 + 2 * count, 3 + 2 * count):
                    layout = {"a": [1, 2 + 4 * count, 2 + 2 * count]}
                    if layout["a"][number] != other:
                        layout["a"][number] = other
                        self.told(parts, 1, layout, ("a", number))


class Near(Looks):
    def test_ahead_in_one_part(self):
        for row, aim, length in AIMING:
            for between in (1, 2, 50, 126, 127, 128, 129, 300):
                rows, lengths = filled_with_lengths(between)
                parts = [("p", [mark("m"), row] + rows + [mark("aim"), aim, STOP])]
                for border in (1, 64):
                    self.told(parts, border, {"p": [2] + lengths + [length, 1]}, None if between <= 127 else ("p", 0))
                    self.told(parts, border, {"p": [3] + lengths + [length, 1]}, None)

    def test_back_in_one_part(self):
        for row, aim, length in AIMING:
            for between in (0, 1, 50, 119, 120, 121, 122, 123, 124, 125, 126, 127, 300):
                rows, lengths = filled_with_lengths(between)
                parts = [("p", [mark("aim"), aim] + rows + [mark("m"), row, STOP])]
                right = None if length + between + 2 <= 128 else ("p", 1 + len(rows))
                for border in (1, 64):
                    self.told(parts, border, {"p": [length] + lengths + [2, 1]}, right)
                    self.told(parts, border, {"p": [length] + lengths + [3, 1]}, None)

    def test_a_row_that_aims_at_itself(self):
        rows, lengths = filled_with_lengths(300)
        self.told([("p", rows + [mark("aim"), ("jump", "aim")])], 1, {"p": lengths + [2]}, None)

    def test_over_borders(self):
        for border in range(1, 65):
            for more in (0, 1):
                for middle in (0, 1):
                    between = 127 - (1 + middle) * (border - 1) + more
                    if between < 1 + middle:
                        continue
                    rows, lengths = filled_with_lengths(between - middle)
                    parts = [("a", [("jump", "aim")] + rows), ("z", [mark("aim"), STOP])] + [("m", [STOP])] * middle
                    layout = {"a": [2] + lengths, "z": [1], "m": [1]}
                    if not middle:
                        layout.pop("m")
                    self.told(parts, border, layout, ("a", 0) if more else None)
                    if between - middle < 3:
                        continue
                    rows, lengths = filled_with_lengths(between - middle - 2)
                    parts = [("a", [mark("aim"), STOP]), ("z", rows + [("jump", "aim")])] + [("m", [STOP])] * middle
                    layout = {"a": [1], "z": lengths + [2], "m": [1]}
                    if not middle:
                        layout.pop("m")
                    self.told(parts, border, layout, ("z", len(rows)) if more else None)

    def test_a_long_row_counts_as_three_between(self):
        rows, lengths = filled_with_lengths(124)
        parts = [("p", [("jump", "aim"), ("jump", "aim")] + rows + [mark("aim"), STOP])]
        self.told(parts, 1, {"p": [2, 2] + lengths + [1]}, None)
        self.told(parts, 1, {"p": [2, 3] + lengths + [1]}, None)
        rows, lengths = filled_with_lengths(125)
        parts = [("p", [("jump", "aim"), ("jump", "aim")] + rows + [mark("aim"), STOP])]
        self.told(parts, 1, {"p": [2, 2] + lengths + [1]}, None)
        self.told(parts, 1, {"p": [2, 3] + lengths + [1]}, ("p", 0))
        self.told(parts, 1, {"p": [3, 3] + lengths + [1]}, None)
        self.told(parts, 1, {"p": [3, 2] + lengths + [1]}, None)

    def test_the_aim_is_where_the_name_stands(self):
        rows, lengths = filled_with_lengths(200)
        near = ("a", [("jump", "x"), mark("x", False), STOP])
        self.told([near], 1, {"a": [2, 1]}, None)
        self.told([near, ("b", rows + [mark("x", True), STOP])], 1, {"a": [2, 1], "b": lengths + [1]}, ("a", 0))
        self.told([near, ("b", rows + [mark("x", False), STOP])], 1, {"a": [2, 1], "b": lengths + [1]}, None)


class WrongLengthsAhead(Looks):
    # The wrong length stands in the part "w", behind the jump of "p": of the two places the jump's is the first.
    def jump_over(self, length):
        parts = [("p", [("jump", "aim")]), ("w", [STOP]), ("z", [mark("aim"), STOP])]
        return parts, {"p": [2], "w": [length], "z": [1]}

    def test_ahead(self):
        for border in (1, 2, 33, 64):
            most = 127 - 2 * (border - 1)
            for length in (most - 1, most, most + 1, 500, HUGE):
                parts, layout = self.jump_over(length)
                if length == 1:
                    self.told(parts, border, layout, None)
                else:
                    self.told(parts, border, layout, ("p", 0) if length > most else ("w", 0))

    def test_a_row_behind_that_comes_to_lie_ahead(self):
        # By a length below 0 the aim has a place no greater than the row's own: the row aims back then.
        for border in (1, 5, 64):
            for back in (-1, 0, 1, 125, 126, 127, 128, 500, HUGE):
                parts, layout = self.jump_over(-back - 2 - 2 * (border - 1))
                self.told(parts, border, layout, ("w", 0) if 2 + back <= 128 else ("p", 0))

    def test_a_wrong_row_that_is_first_by_its_place(self):
        # The wrong length stands ahead of the short row: it is told, and not the row that is far by it.
        parts = [("a", [mark("aim"), STOP]), ("b", [STOP]), ("c", [("jump", "aim")])]
        self.told(parts, 1, {"a": [1], "b": [125], "c": [2]}, ("b", 0))
        self.told(parts, 1, {"a": [1], "b": [126], "c": [2]}, ("b", 0))
        # Now it stands between, in a part with a later name than the short one's.
        parts = [("a", [("jump", "aim")]), ("b", [STOP]), ("c", [mark("aim"), STOP])]
        self.told(parts, 1, {"a": [2], "b": [127], "c": [1]}, ("b", 0))
        self.told(parts, 1, {"a": [2], "b": [128], "c": [1]}, ("a", 0))
        self.told(parts, 1, {"a": [3], "b": [128], "c": [1]}, ("b", 0))

    def test_a_wrong_length_of_the_row_itself(self):
        # Neither short nor long: wrong by its length, wherever it aims, and it counts with that length.
        parts = [("a", [("jump", "end"), ("jump", "end")] + [STOP] * 3 + [mark("end"), STOP])]
        for length in (0, 1, 4, 5, -2, -3, 120, HUGE):
            self.told(parts, 1, {"a": [length, 2, 1, 1, 1, 1]}, ("a", 0))
        for length, right in ((4, 1), (124, 1), (125, 0), (-4, 1), (-100, 1)):
            self.told(parts, 1, {"a": [2, length, 1, 1, 1, 1]}, ("a", right))


class TheFirst(Looks):
    def test_parts_by_their_names_and_rows_in_their_order(self):
        parts = [("c", [STOP] * 3), ("a", [STOP] * 3), ("b", [STOP] * 3), ("aa", [STOP] * 3)]
        places = [(part, number) for part in ("a", "aa", "b", "c") for number in range(3)]
        for first in range(12):
            for wrong in ([first], [first, 11], list(range(first, 12)), [first] + list(range(first + 1, 12, 2))):
                layout = {part: [1] * 3 for part in ("c", "b", "aa", "a")}
                for number in wrong:
                    layout[places[number][0]][places[number][1]] = 2
                self.told(parts, 1, layout, places[first])

    def test_marks_are_not_counted(self):
        parts = [("a", [mark("x"), mark("y"), STOP, mark("z"), STOP, mark("w", False), STOP])]
        for number in range(3):
            layout = {"a": [1, 1, 1]}
            layout["a"][number] = 0
            self.told(parts, 1, layout, ("a", number))

    def test_a_far_row_and_a_wrong_length_whichever_is_first(self):
        rows, lengths = filled_with_lengths(200)
        parts = [("a", [("set", 0, 0), ("call", "end"), ("set", 1, 1), STOP] + rows + [mark("end"), STOP])]
        self.told(parts, 1, {"a": [5, 2, 5, 1] + lengths + [1]}, ("a", 1))
        self.told(parts, 1, {"a": [5, 2, 3, 1] + lengths + [1]}, ("a", 1))
        self.told(parts, 1, {"a": [3, 2, 5, 1] + lengths + [1]}, ("a", 0))
        self.told(parts, 1, {"a": [5, 3, 3, 1] + lengths + [1]}, ("a", 2))
        self.told(parts, 1, {"a": [5, 3, 5, 1] + lengths + [1]}, None)


def right_answer(parts, border, layout):
    """The same, reckoned by the words of the document, one row at a time."""
    rows_of = {part: [row for row in rows if row[0] != "mark"] for part, rows in parts}
    names = {}
    for part, rows in parts:
        for number, row in enumerate(rows):
            if row[0] == "mark":
                names[row[1]] = (part, len([one for one in rows[:number] if one[0] != "mark"]))

    def stretched(part, number):
        ahead = [other for other in rows_of if other < part]
        return sum(sum(layout[other]) + border - 1 for other in ahead) + sum(layout[part][:number])

    for part in sorted(rows_of):
        for number, row in enumerate(rows_of[part]):
            length = layout[part][number]
            if row[0] in ROWS_WITH_AIMS:
                may = (2, 3)
            elif row[0] == "numbers":
                may = (2 + 4 * len(row[1]),)
            elif row[0] == "table":
                may = (2 + 2 * len(row[1]),)
            else:
                may = (5,) if row[0] in ("set", "alike") else (1,)
            if length not in may:
                return (part, number)
            if row[0] in ROWS_WITH_AIMS and length == 2:
                own, aim = stretched(part, number), stretched(*names[row[-1]])
                if (aim - own - 2 > 127) if aim > own else (own + 2 - aim > 128):
                    return (part, number)
    return None


def any_parts(chance):
    """Each name has one mark; code names, one name of numbers and one of a table in each part."""
    chosen = chance.sample(["a", "b", "c", "ab", "z"], chance.randint(1, 4))
    code = [part + letter for part in chosen for letter in "xyz"]
    parts = []
    for part in chosen:
        rows = []
        for letter in "xyz":
            rows += filled(chance.choice([0, 1, 20, 40, 60]))
            other = chance.choice(chosen)
            rows += [mark(part + letter), ("set", 0, 1), chance.choice([
                ("jumpif", 1, chance.choice(code)), ("call", chance.choice(code)), ("alike", 0, "n" + other, part + letter),
                ("load", 0, 1, "n" + other)]), chance.choice([("jump", chance.choice(code)), ("jumpby", 2, "t" + other)])]
        rows += [mark("n" + part), ("numbers", [1, 2]), mark("t" + part), ("table", chance.choices(code, k=3))]
        parts.append((part, rows))
    return parts


class AgainstTheWords(Looks):
    def test_any_layouts(self):
        chance = random.Random(27)
        seen = {}
        for turn in range(400):
            parts = any_parts(chance)
            border = chance.randint(1, 64)
            layout = least_layout(parts, border)
            for part in layout:
                for number, length in enumerate(layout[part]):
                    if length in (2, 3) and chance.random() < 0.3:
                        layout[part][number] = chance.choice((2, 3))
            if chance.random() < 0.4:
                lengths = chance.choice(list(layout.values()))
                lengths[chance.randrange(len(lengths))] = chance.choice([0, 1, 2, 4, 5, 90, 200, -1, -90, -200, HUGE])
            right = right_answer(parts, border, layout)
            self.told(parts, border, layout, right)
            seen[None if right is None else right[0]] = True
        self.assertGreaterEqual(len(seen), 5)


class Refused(Looks):
    parts = [("b", [mark("x"), STOP, mark("y"), STOP]), ("a", [("jump", "x"), mark("z"), STOP, STOP])]
    layout = {"a": [2, 1, 1], "b": [1, 1]}

    def no_layouts(self):
        a, b = [2, 1, 1], [1, 1]
        return [
            None, True, 0, 1, "", "ab", (), [], [a, b], [("a", a), ("b", b)], ("a", "b"), (("a", a), ("b", b)), ["a", "b"],
            {}, {"a": a}, {"b": b}, {"a": a, "b": b, "c": []}, {"a": a, "b": b, "c": [1]}, {"a": a, "b": b, "x": [1]},
            {"a": a, "c": b}, {"a": a, "B": b}, {"a": a, "b ": b}, {"a": a, 1: b}, {"a": a, None: b}, {"a": a, ("b",): b},
            {"a": a, "b": b, None: b}, {"a": a, "b": b, 0: b}, {"a": a, "": b}, {1: a, 2: b},
            {"a": [], "b": b}, {"a": [2, 1], "b": b}, {"a": [2, 1, 1, 1], "b": b}, {"a": a, "b": []}, {"a": a, "b": [1]},
            {"a": a, "b": [1, 1, 1]}, {"a": b, "b": a}, {"a": a, "b": [1, 1, 1, 1]},
            {"a": [0, 2, 1, 1], "b": [0, 1, 0, 1]},
            {"a": a, "b": [True, 1]}, {"a": a, "b": [1, True]}, {"a": a, "b": [False, 1]}, {"a": [2, 1, True], "b": b},
            {"a": a, "b": [1, None]}, {"a": a, "b": [1, "1"]}, {"a": a, "b": [1, 1.0]}, {"a": a, "b": [[1], 1]},
            {"a": a, "b": [1, (1,)]}, {"a": a, "b": [{}, 1]},
            {"a": a, "b": (1, 1)}, {"a": (2, 1, 1), "b": b}, {"a": a, "b": None}, {"a": None, "b": None}, {"a": a, "b": 2},
            {"a": a, "b": "11"}, {"a": a, "b": {0: 1, 1: 1}}, {"a": a, "b": range(2)}, {"a": a, "b": True}]

    def test_the_parts_with_a_layout(self):
        self.told(self.parts, 1, self.layout, None)

    def test_what_is_no_layout(self):
        for layout in self.no_layouts():
            for border in (1, 64):
                with self.subTest(repr(layout)):
                    self.refused(NoLayout, wrong_in, (self.parts, border, layout))
                    self.refused(NoLayout, wrong_in, (self.parts[::-1], border, layout))

    def test_what_is_no_layout_goes_ahead_of_wrong_lengths(self):
        self.refused(NoLayout, wrong_in, (self.parts, 1, {"a": [9, 9, 9], "b": [1]}))
        self.refused(NoLayout, wrong_in, (self.parts, 1, {"a": [9, 9, 9], "b": [1, True]}))
        self.refused(NoLayout, wrong_in, (self.parts, 1, {"a": [9, 9, 9], "b": [1, 1], "c": [1]}))

    def test_borders_that_are_none(self):
        for border in NO_BORDERS:
            with self.subTest(repr(border)):
                self.refused(BadBase, wrong_in, (self.parts, border, self.layout))
                self.refused(BadBase, wrong_in, (self.parts, border, {"a": [9, 9, 9], "b": [1, 1]}))
        for border in range(1, 65):
            self.assertIsNone(wrong_in(self.parts, border, self.layout))

    def test_a_border_that_is_none_goes_ahead_of_what_is_no_layout(self):
        for border in NO_BORDERS:
            for layout in self.no_layouts():
                self.refused(BadBase, wrong_in, (self.parts, border, layout))

    def test_what_is_wrong_with_the_parts_goes_ahead(self):
        for error, parts, fields in WRONG_PARTS:
            for border in [1, 64] + NO_BORDERS:
                for layout in self.no_layouts() + [self.layout, {"a": [1]}, {"a": [1, 2]}, {"a": [6, 2]}]:
                    self.assertEqual(self.refused(error, wrong_in, (parts, border, layout)), fields)


class TheAskersOwn(Looks):
    def test_what_was_told_stays(self):
        parts = [("a", [STOP, STOP])]
        layout = {"a": [1, 2]}
        told = wrong_in(parts, 1, layout)
        layout["a"][1] = 1
        parts[0][1].append(STOP)
        self.assertEqual(told, ("a", 1))
        layout["a"].append(1)
        self.assertIsNone(wrong_in(parts, 1, layout))
        self.assertEqual((parts, layout), ([("a", [STOP] * 3)], {"a": [1, 1, 1]}))


class Interface(unittest.TestCase):
    def test_the_arguments_have_their_names(self):
        self.assertIsNone(wrong_in(parts=[("a", [STOP])], border=1, layout={"a": [1]}))


if __name__ == "__main__":
    unittest.main()
