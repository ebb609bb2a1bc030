"""Promises 22 to 26, and of promise 2 that what is told is the asker's own, and the order of the refusals."""

import copy
import itertools
import random
import unittest

from farjump.errors import BadBase
from farjump.layout import least_layout, starts
from tests.helper import AIMING, NO_BORDERS, STOP, WRONG_PARTS, Refusals, filled, in_each_order, mark

SHORT, LONG = 2, 3


class Layouts(Refusals):
    def told(self, parts, border, right):
        before = copy.deepcopy(parts)
        layout = least_layout(parts, border)
        self.assertEqual(layout, right)
        self.assertIs(type(layout), dict)
        for lengths in layout.values():
            self.assertIs(type(lengths), list)
        self.assertEqual(parts, before)

    def length_of(self, parts, border, part, number):
        """The length of one row, in the least layout, whatever the order of the parts."""
        before = copy.deepcopy(parts)
        layouts = [least_layout(some, border) for some in in_each_order(parts)]
        self.assertEqual(parts, before)
        for layout in layouts:
            self.assertEqual(layout, layouts[0])
        return layouts[0][part][number]


class Lengths(Layouts):
    def test_rows_filled_in_have_just_so_many_cells(self):
        for cells in range(1, 400):
            rows = filled(cells)
            self.assertEqual(sum(least_layout([("a", rows)], 1)["a"]), cells)
            self.assertLess(len(rows), 10)
            self.assertEqual(rows[0], STOP)

    def test_rows_of_one_length_have_it(self):
        rows = [mark("m"), ("set", 1, 5), ("add", 1, 2), ("take", 1, 2), ("say", 1), mark("n"), ("ask", 1),
                ("alike", 1, "m", "n"), ("back",), STOP, ("numbers", [1, 2, 3]), ("table", ["m", "n", "m"])]
        for border in (1, 2, 64):
            self.told([("a", rows)], border, {"a": [5, 1, 1, 1, 1, 5, 1, 1, 14, 8]})

    def test_each_part_has_a_list_with_one_length_for_each_row(self):
        parts = [("b", [mark("x"), ("jump", "y")]), ("aa", [("numbers", [1])]), ("a", [STOP, mark("y"), mark("z"), STOP])]
        for some in in_each_order(parts):
            self.told(some, 1, {"a": [1, 1], "aa": [6], "b": [SHORT]})

    def test_alike_and_tables_are_never_short(self):
        parts = [("a", [mark("m"), ("alike", 0, "m", "n"), ("jump", "n"), ("table", ["m", "n"])]), ("n", [mark("n"), STOP])]
        self.told(parts, 1, {"a": [5, SHORT, 6], "n": [1]})


class Near(Layouts):
    def test_ahead_in_one_part(self):
        for row, aim, length in AIMING:
            for between in (0, 1, 2, 50, 125, 126, 127, 128, 129, 130, 400):
                if between == 0 and row[0] == "load":
                    continue
                with self.subTest((row, between)):
                    parts = [("p", [mark("m"), row] + filled(between) + [mark("aim"), aim, STOP])]
                    right = SHORT if between <= 127 else LONG
                    for border in (1, 64):
                        self.assertEqual(self.length_of(parts, border, "p", 0), right)

    def test_back_in_one_part(self):
        for row, aim, length in AIMING:
            for between in (0, 1, 50, 110, 119, 120, 121, 122, 123, 124, 125, 126, 127, 128, 400):
                with self.subTest((row, between)):
                    rows = [mark("aim"), aim] + filled(between) + [mark("m"), row, STOP]
                    right = SHORT if length + between + 2 <= 128 else LONG
                    number = len(rows) - 4
                    for border in (1, 64):
                        self.assertEqual(self.length_of([("p", rows)], border, "p", number), right)

    def test_a_row_that_aims_at_itself(self):
        for row, aim, length in AIMING[:3]:
            parts = [("p", filled(300) + [mark("aim"), row, STOP])]
            self.assertEqual(self.length_of(parts, 1, "p", len(filled(300))), SHORT)

    def test_ahead_over_a_border(self):
        for border in range(1, 65):
            for row, aim, length in AIMING[::2]:
                for between in (127 - border, 128 - border, 129 - border, 130 - border):
                    before = between // 2 if row[0] == "jump" else max(1, between // 2)
                    parts = [("p", [mark("m"), row] + filled(before)),
                             ("q", filled(between - before) + [mark("aim"), aim])]
                    right = SHORT if between + border - 1 <= 127 else LONG
                    self.assertEqual(self.length_of(parts, border, "p", 0), right, (border, row, between))

    def test_back_over_a_border(self):
        for border in range(1, 65):
            for row, aim, length in AIMING[::2]:
                for apart in (126 - border, 127 - border, 128 - border):
                    after = (apart - length) // 2
                    ahead = filled(apart - length - after)
                    parts = [("p", [mark("aim"), aim] + filled(after)), ("q", ahead + [mark("m"), row, STOP])]
                    right = SHORT if apart + border - 1 + 2 <= 128 else LONG
                    self.assertEqual(self.length_of(parts, border, "q", len(ahead)), right, (border, row, apart))

    def test_over_several_parts(self):
        for border in (1, 2, 7, 16, 40):
            for count in (1, 2, 3):
                for more in (0, 1):
                    between = 127 - (count + 1) * (border - 1) + more
                    if between - count < 1:
                        continue
                    middle = [("m" + "abc"[k], [STOP]) for k in range(count)]
                    right = LONG if more else SHORT
                    parts = [("a", [mark("m"), ("jump", "aim")] + filled(between - count))] + middle + [("z", [mark("aim"), STOP])]
                    self.assertEqual(self.length_of(parts, border, "a", 0), right)
                    # Back, the aim itself and the row's own two cells lie between.
                    last = filled(between - count - 2)
                    parts = [("a", [mark("aim"), STOP])] + middle + [("z", last + [("jump", "aim")])]
                    self.assertEqual(self.length_of(parts, border, "z", len(last)), right)

    def test_parts_are_laid_by_their_names(self):
        far = filled(200)
        parts = [("a", [("jump", "aim")]), ("c", far), ("b", [mark("aim"), STOP])]
        self.assertEqual(self.length_of(parts, 1, "a", 0), SHORT)
        parts = [("a", [("jump", "aim")]), ("b", far), ("c", [mark("aim"), STOP])]
        self.assertEqual(self.length_of(parts, 1, "a", 0), LONG)

    def test_the_aim_is_where_the_name_stands(self):
        near = ("a", [("jump", "x"), ("mark", "x", False), STOP])
        self.assertEqual(self.length_of([near], 1, "a", 0), SHORT)
        far = ("b", filled(200) + [("mark", "x", True), STOP])
        self.assertEqual(self.length_of([near, far], 1, "a", 0), LONG)
        weak = ("b", filled(200) + [("mark", "x", False), STOP])
        self.assertEqual(self.length_of([near, weak], 1, "a", 0), SHORT)


class Chains(Layouts):
    def test_one_row_made_long_makes_another_one_far(self):
        # The first jump has 125 cells and the second jump between itself and its aim.
        def parts(far):
            return [("p", [("jump", "one"), ("jump", "two")] + filled(125) + [mark("one"), STOP] + filled(far) + [mark("two"), STOP])]
        self.assertEqual(least_layout(parts(1), 1)["p"][:2], [SHORT, SHORT])
        self.assertEqual(least_layout(parts(2), 1)["p"][:2], [LONG, LONG])

    def test_one_row_made_long_makes_one_behind_it_far(self):
        def parts(far):
            return [("p", [mark("one"), STOP] + filled(123) + [("jump", "two"), ("jump", "one")] + filled(far) + [mark("two"), STOP])]
        count = 1 + len(filled(123))
        self.assertEqual(least_layout(parts(125), 1)["p"][count:count + 2], [SHORT, SHORT])
        self.assertEqual(least_layout(parts(126), 1)["p"][count:count + 2], [LONG, LONG])

    def chain(self, border, far, back):
        # Each part's jump aims into the next part of the chain, just near while that part's own jump is short.
        most = 125 - border
        if back:
            # Back, the aim's cell counts too, and 2 for the jump itself, with one more that may lie between.
            most -= 2
        between = [40]
        for number in range(10):
            between.append(most - between[-1])
        between.append(most + 2 - between[-1] + far)
        jumps = [[("jump", name)] for name in "bcdefghijkl"] + [[]]
        parts = []
        for name, aim, jump, cells in zip("lkjihgfedcba" if back else "abcdefghijkl", "abcdefghijkl", jumps, between):
            aimed = [mark(aim), STOP]
            parts.append((name, aimed + filled(cells) + jump if back else jump + filled(cells) + aimed))
        return parts

    def jumps_of(self, parts, border, back):
        layout = least_layout(parts, border)
        return [layout[part][-1 if back else 0] for part in ("bcdefghijkl" if back else "abcdefghijk")]

    def test_a_long_chain_over_parts(self):
        for border in range(1, 65):
            for back in (False, True):
                for far, right in ((0, SHORT), (1, LONG)):
                    parts = self.chain(border, far, back)
                    self.assertEqual(self.jumps_of(parts, border, back), [right] * 11, (border, back, far))
                    random.Random(border).shuffle(parts)
                    self.assertEqual(self.jumps_of(parts, border, back), [right] * 11, (border, back, far))

    def test_rows_that_could_be_short_together_are_short(self):
        # Two jumps over one another: long both would be right too, but is not the least.
        rows = [("jump", "end"), mark("begin"), STOP] + filled(120) + [("jump", "begin"), mark("end"), STOP]
        self.assertEqual(least_layout([("p", rows)], 1)["p"][0], SHORT)
        self.assertEqual(least_layout([("p", rows)], 1)["p"][-2], SHORT)


def laid(parts, border, layout):
    """The stretched places, added up row by row as the document tells: a dict from (part, number) to the place."""
    told = {}
    for part, lengths in layout.items():
        for number in range(len(lengths)):
            ahead = [other for other in layout if other < part]
            told[part, number] = sum(sum(layout[other]) + border - 1 for other in ahead) + sum(lengths[:number])
    return told


def where_names_stand(parts):
    told = {}
    for part, rows in parts:
        number = 0
        for row in rows:
            if row[0] == "mark":
                told[row[1]] = (part, number)
            else:
                number += 1
    return told


def bare(parts):
    return {part: [row for row in rows if row[0] != "mark"] for part, rows in parts}


def is_right(parts, border, layout):
    names = where_names_stand(parts)
    places = laid(parts, border, layout)
    for part, rows in bare(parts).items():
        for number, row in enumerate(rows):
            if row[0] in ("jump", "jumpif", "call", "load", "jumpby") and layout[part][number] == 2:
                own, aim = places[part, number], places[names[row[-1]]]
                if aim > own and aim - own - 2 > 127 or aim <= own and own + 2 - aim > 128:
                    return False
    return True


def lengths_of(row, aiming):
    plain = {"set": 5, "alike": 5}
    if row[0] in ("jump", "jumpif", "call", "load", "jumpby"):
        return aiming
    if row[0] in ("numbers", "table"):
        return 2 + {"numbers": 4, "table": 2}[row[0]] * len(row[1])
    return plain.get(row[0], 1)


def all_right_layouts(parts, border):
    rows = bare(parts)
    aiming = [(part, number) for part in rows for number, row in enumerate(rows[part]) if row[0] in ("jump", "call")]
    for lengths in itertools.product((2, 3), repeat=len(aiming)):
        layout = {part: [lengths_of(row, 2) for row in rows[part]] for part in rows}
        for (part, number), length in zip(aiming, lengths):
            layout[part][number] = length
        if is_right(parts, border, layout):
            yield layout


class AgainstAllLayouts(Layouts):
    def any_parts(self, chance):
        names = ["n" + one for one in "abcdef"]
        parts = [(part, []) for part in chance.sample("abcd", chance.randint(1, 3))]
        for name in names:
            rows = chance.choice(parts)[1]
            rows.extend(chance.choice([filled(chance.randint(0, 3)), filled(chance.randint(20, 62))]))
            rows.extend([mark(name)] + chance.choice([[("jump", chance.choice(names))], [("call", chance.choice(names)), STOP]]))
            rows.extend(chance.choice([filled(chance.randint(0, 3)), filled(chance.randint(20, 62))]))
        return [part for part in parts if part[1]]

    def test_it_is_the_least_of_all_right_ones(self):
        chance = random.Random(23)
        longs = {}
        for turn in range(150):
            parts = self.any_parts(chance)
            border = chance.choice([1, 1, 2, 8, 33, 64])
            right = list(all_right_layouts(parts, border))
            least = {part: [min(lengths) for lengths in zip(*[layout[part] for layout in right])] for part in right[0]}
            self.assertIn(least, right)
            self.told(parts, border, least)
            chance.shuffle(parts)
            self.told(parts, border, least)
            count = sum(lengths.count(3) for lengths in least.values())
            longs[count] = True
        self.assertGreaterEqual(len(longs), 5)


class Starts(Layouts):
    def test_for_each_border_and_several_bases(self):
        parts = [("c", filled(30)), ("a", [("set", 0, 1), STOP]), ("b", [STOP]), ("abc", filled(64)), ("d", filled(63))]
        ends = {"c": 30, "a": 6, "b": 1, "abc": 64, "d": 63}
        for border in range(1, 65):
            layout = least_layout(parts, border)
            for base in (0, border, 2 * border, 17 * border, 1000 * border, 10 ** 50 * border):
                right = {}
                place = base
                for part in ("a", "abc", "b", "c", "d"):
                    while place % border != 0:
                        place += 1
                    right[part] = place
                    place += ends[part]
                before = copy.deepcopy((parts, layout))
                told = starts(parts, border, base, layout)
                self.assertEqual(told, right)
                self.assertIs(type(told), dict)
                self.assertEqual((parts, layout), before)
                self.assertEqual(starts(parts[::-1], border, base, layout), right)

    def test_ends_at_and_beside_a_border(self):
        for cells, place in ((15, 16), (16, 16), (17, 32), (31, 32), (32, 32), (33, 48)):
            parts = [("a", filled(cells)), ("b", [STOP])]
            self.assertEqual(starts(parts, 16, 160, least_layout(parts, 16)), {"a": 160, "b": 160 + place})

    def test_the_lengths_are_those_of_the_layout_told(self):
        parts = [("b", [STOP]), ("a", [mark("m"), ("jump", "m"), ("jump", "m"), ("jump", "m")]), ("c", [("jump", "m")])]
        self.assertEqual(starts(parts, 1, 5, {"a": [2, 2, 2], "b": [1], "c": [2]}), {"a": 5, "b": 11, "c": 12})
        self.assertEqual(starts(parts, 1, 5, {"c": [3], "b": [1], "a": [2, 3, 2]}), {"a": 5, "b": 12, "c": 13})
        self.assertEqual(starts(parts, 4, 8, {"b": [1], "a": [3, 3, 3], "c": [3]}), {"a": 8, "b": 20, "c": 24})

    def test_one_part(self):
        self.assertEqual(starts([("a", [STOP])], 64, 640, {"a": [1]}), {"a": 640})
        self.assertEqual(starts([("a", [STOP])], 1, 0, {"a": [1]}), {"a": 0})

    def test_what_lies_between_is_never_more_than_stretched(self):
        chance = random.Random(2)
        for turn in range(50):
            parts = [(name, filled(chance.randint(1, 90))) for name in "abcd"]
            border = chance.randint(1, 64)
            layout = least_layout(parts, border)
            told = starts(parts, border, 0, layout)
            stretched = laid(parts, border, layout)
            for one, other in itertools.combinations("abcd", 2):
                self.assertLessEqual(told[other] - told[one], stretched[other, 0] - stretched[one, 0])


class Refused(Layouts):
    def test_borders_that_are_none(self):
        parts = [("a", [STOP])]
        for border in NO_BORDERS:
            with self.subTest(repr(border)):
                self.refused(BadBase, least_layout, (parts, border))
                for base in (0, 1, 64, 65, -1):
                    self.refused(BadBase, starts, (parts, border, base, {"a": [1]}))

    def test_each_border_that_is_one(self):
        parts = [("a", [STOP])]
        for border in range(1, 65):
            self.assertEqual(least_layout(parts, border), {"a": [1]})
            self.assertEqual(starts(parts, border, border, {"a": [1]}), {"a": border})

    def test_bases_that_are_none(self):
        parts = [("a", [STOP])]
        for border in range(1, 65):
            for base in [-1, -border, -2 * border, -64 * border, -(10 ** 50) * border, True, False, None, "0", [0], (0,)]:
                self.refused(BadBase, starts, (parts, border, base, {"a": [1]}))
            for base in range(1, 3 * border):
                if base % border != 0:
                    self.refused(BadBase, starts, (parts, border, base, {"a": [1]}))
                    self.refused(BadBase, starts, (parts, border, base - 3 * border, {"a": [1]}))

    def test_what_is_wrong_with_the_parts_goes_ahead(self):
        for error, parts, fields in WRONG_PARTS:
            for border, base in ((1, 0), (0, 0), (65, 0), (None, None), (2, 1), (4, -4)):
                with self.subTest((error, border, base)):
                    self.assertEqual(self.refused(error, least_layout, (parts, border)), fields)
                    self.assertEqual(self.refused(error, starts, (parts, border, base, {"a": [1]})), fields)


class TheAskersOwn(Layouts):
    def test_layouts(self):
        parts = [("a", [mark("x"), ("jump", "y")]), ("b", filled(200) + [mark("y"), ("jump", "x")])]
        first = least_layout(parts, 1)
        right = copy.deepcopy(first)
        first["a"][0] = 99
        first["b"].clear()
        first["c"] = [1]
        self.assertEqual(least_layout(parts, 1), right)
        second = least_layout(parts, 1)
        parts[1][1].insert(0, STOP)
        self.assertEqual(second, right)
        self.assertEqual(least_layout(parts, 1)["b"], [1] + right["b"])

    def test_starts(self):
        parts = [("a", [STOP]), ("b", [STOP])]
        layout = {"a": [1], "b": [1]}
        told = starts(parts, 1, 0, layout)
        layout["a"][0] = 7
        self.assertEqual(told, {"a": 0, "b": 1})
        told.clear()
        self.assertEqual(starts(parts, 1, 0, layout), {"a": 0, "b": 7})
        self.assertEqual(layout, {"a": [7], "b": [1]})


class Interface(unittest.TestCase):
    def test_the_arguments_have_their_names(self):
        parts = [("a", [STOP])]
        self.assertEqual(least_layout(parts=parts, border=1), {"a": [1]})
        self.assertEqual(starts(parts=parts, border=2, base=4, layout={"a": [1]}), {"a": 4})


if __name__ == "__main__":
    unittest.main()
