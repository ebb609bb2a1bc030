"""Promises 9 to 11 (with 4: what each row does), and of promise 2 that what is told is the asker's own."""

import copy
import itertools
import random
import unittest

from farjump.errors import BadParts, BadRow, Lacking, NoEnd, NoStart, Twice, WrongAim
from farjump.runner import run_names

STOP = ("stop",)
BACK = ("back",)
LEAST = -2147483648
GREATEST = 2147483647
HUGE = 10 ** 60 - 1
BOXES = [0, 1, 2, 3]


def mark(name, strong=False):
    return ("mark", name, strong)


def say(*boxes):
    return [("say", box) for box in boxes]


def part(*rows):
    return [("main", [mark("start", True)] + list(rows))]


class Runs(unittest.TestCase):
    def told(self, parts, answers, end, inputs=(), steps=500, start="start"):
        given = list(inputs)
        before = copy.deepcopy(parts)
        ran = run_names(parts, start, given, steps)
        self.assertEqual(ran, (answers, end))
        self.assertIs(type(ran), tuple)
        self.assertIs(type(ran[0]), list)
        self.assertEqual(parts, before)
        self.assertEqual(given, list(inputs))

    def bounds(self, parts, answers, end, rows, inputs=()):
        # The run does just so many rows: with each bound below that it ends by the bound, with what was answered so far.
        self.told(parts, answers, end, inputs, rows)
        self.told(parts, answers, end, inputs, rows + 1)
        self.told(parts, answers, end, inputs, 500)
        self.told(parts, [], "steps", inputs, 0)
        for steps in range(rows):
            so_far, word = run_names(parts, "start", list(inputs), steps)
            self.assertEqual((so_far, word), (answers[:len(so_far)], "steps"), steps)


class BoxRows(Runs):
    def test_all_boxes_are_0_at_first(self):
        self.told(part(*say(0, 1, 2, 3), STOP), [0, 0, 0, 0], "stop")

    def test_set_each_box(self):
        for box in BOXES:
            for number in (LEAST, -1, 0, 1, GREATEST):
                right = [0, 0, 0, 0]
                right[box] = number
                self.told(part(("set", box, 5), ("set", box, number), *say(0, 1, 2, 3), STOP), right, "stop")

    def test_add_and_take_each_two_boxes(self):
        at_first = [5, -7, 1000, 3]
        sets = [("set", box, number) for box, number in enumerate(at_first)]
        for one, other in itertools.product(BOXES, BOXES):
            with self.subTest((one, other)):
                right = list(at_first)
                right[one] = at_first[one] + at_first[other]
                self.told(part(*sets, ("add", one, other), *say(0, 1, 2, 3), STOP), right, "stop")
                right[one] = at_first[one] - at_first[other]
                self.told(part(*sets, ("take", one, other), *say(0, 1, 2, 3), STOP), right, "stop")

    def test_boxes_hold_numbers_of_any_size(self):
        rows = [("ask", 0), ("ask", 1), mark("again"), ("add", 0, 0), ("say", 0), ("jumpif", 1, "again"), STOP]
        answers, end = run_names(part(*rows), "start", [HUGE, 1], 500)
        self.assertEqual(end, "steps")
        self.assertEqual(answers, [HUGE * 2 ** k for k in range(1, len(answers) + 1)])
        self.assertEqual(len(answers), 166)
        rows[3] = ("take", 2, 0)
        rows[4] = ("say", 2)
        answers, end = run_names(part(*rows), "start", [HUGE, 1], 500)
        self.assertEqual(answers, [-HUGE * k for k in range(1, 167)])

    def test_numbers_beyond_those_of_a_row(self):
        self.told(part(("set", 0, GREATEST), ("set", 1, 1), ("add", 0, 1), ("say", 0), STOP), [GREATEST + 1], "stop")
        self.told(part(("set", 0, LEAST), ("set", 1, 1), ("take", 0, 1), ("say", 0), STOP), [LEAST - 1], "stop")

    def test_answers_stand_in_their_order(self):
        rows = [("set", 2, 9), *say(2, 0, 2), ("set", 2, -1), *say(2, 2), STOP]
        self.told(part(*rows), [9, 0, 9, -1, -1], "stop")

    def test_ask_takes_the_inputs_in_their_order(self):
        for box in BOXES:
            rows = [("ask", box), ("say", box), ("ask", box), ("say", box), STOP]
            self.told(part(*rows), [7, -HUGE], "stop", [7, -HUGE])

    def test_more_inputs_than_asked_for(self):
        self.told(part(("ask", 1), ("say", 1), STOP), [4], "stop", [4, 5, 6])
        self.told(part(STOP), [], "stop", [4, 5, 6])

    def test_an_ask_changes_its_box_alone(self):
        self.told(part(("set", 0, 1), ("ask", 1), *say(0, 1, 2, 3), STOP), [1, 8, 0, 0], "stop", [8])


class Ways(Runs):
    def test_rows_go_on_over_marks(self):
        rows = [mark("a"), mark("b"), ("set", 0, 1), mark("c"), ("say", 0), mark("d"), mark("e"), ("say", 1), mark("f"), STOP]
        self.told(part(*rows), [1, 0], "stop")

    def test_jump_ahead_back_and_to_another_part(self):
        parts = [("z", [mark("start"), ("jump", "ahead"), ("say", 0), mark("back"), ("jump", "over"), ("say", 1),
                        mark("ahead"), ("set", 3, 3), ("jump", "back")]),
                 ("a", [("say", 2), mark("over"), ("say", 3), STOP])]
        self.told(parts, [3], "stop")

    def test_jumpif_with_0_and_with_others(self):
        for box in BOXES:
            rows = [("ask", box), ("jumpif", box, "away"), mark("m"), ("set", 0, 1), ("say", 0), STOP,
                    mark("away"), ("set", 0, 2), ("say", 0), STOP]
            self.told(part(*rows), [1], "stop", [0])
            for number in (1, -1, 2, 7, LEAST, HUGE, -HUGE):
                self.told(part(*rows), [2], "stop", [number])

    def test_jumpif_looks_at_its_own_box(self):
        for box in BOXES:
            for other in BOXES:
                rows = [("set", other, 1), ("jumpif", box, "away"), STOP, mark("away"), ("say", other), STOP]
                self.told(part(*rows), [1] if box == other else [], "stop")

    def test_a_loop(self):
        rows = [("ask", 0), ("set", 1, 1), mark("again"), ("say", 0), ("take", 0, 1), ("jumpif", 0, "again"), STOP]
        self.told(part(*rows), [5, 4, 3, 2, 1], "stop", [5])

    def test_call_and_back(self):
        rows = [("call", "sub"), ("say", 0), ("call", "sub"), ("say", 0), STOP,
                mark("sub"), ("set", 1, 2), ("add", 0, 1), BACK]
        self.told(part(*rows), [2, 4], "stop")

    def test_back_goes_on_behind_marks(self):
        self.told(part(("call", "sub"), mark("m"), mark("n"), ("say", 0), STOP, mark("sub"), BACK), [0], "stop")

    def test_calls_over_several_parts_come_back_in_turn(self):
        parts = [("c", [mark("start", True), ("call", "one"), ("set", 0, 1), ("say", 0), ("call", "two"), ("set", 0, 4),
                        ("say", 0), STOP]),
                 ("a", [mark("one", True), ("call", "two"), mark("m"), ("set", 0, 2), ("say", 0), BACK]),
                 ("b", [STOP, mark("two", True), ("set", 0, 3), ("say", 0), BACK])]
        for some in itertools.permutations(parts):
            self.told(list(some), [3, 2, 1, 3, 4], "stop")

    def test_a_back_takes_one_off(self):
        rows = [("call", "one"), ("say", 0), BACK, mark("one"), ("call", "two"), ("say", 1), BACK, mark("two"), BACK]
        self.told(part(*rows), [0, 0], "empty")

    def test_a_jump_keeps_nothing(self):
        self.told(part(("jump", "sub"), mark("sub"), BACK), [], "empty")

    def test_alike(self):
        parts = [("a", [mark("start"), mark("here", True), ("alike", 0, "x", "y"), ("say", 0), ("alike", 1, "x", "z"),
                        ("say", 1), ("alike", 2, "x", "x"), ("say", 2), ("alike", 3, "here", "start"), ("say", 3),
                        ("set", 0, 5), ("alike", 0, "z", "w"), ("say", 0), ("alike", 0, "n", "nn"), ("say", 0),
                        ("alike", 0, "z", "n"), ("say", 0), STOP]),
                 ("b", [mark("x"), mark("y"), STOP, mark("z"), STOP, mark("n"), ("numbers", [1]), mark("nn"),
                        ("numbers", [1])]),
                 ("c", [STOP, mark("w"), STOP])]
        self.told(parts, [1, 0, 1, 1, 0, 0, 0], "stop")

    def test_alike_hangs_on_who_stands(self):
        asker = ("a", [mark("start"), ("alike", 2, "x", "y"), ("say", 2), STOP])
        weak = ("b", [mark("x"), mark("y"), STOP])
        self.told([asker, weak], [1], "stop")
        self.told([asker, weak, ("c", [mark("y", True), STOP])], [0], "stop")
        self.told([asker, weak, ("c", [mark("y", True), mark("x", True), STOP])], [1], "stop")

    def test_the_strong_mark_is_gone_to(self):
        parts = [("a", [mark("start"), ("jump", "x")]), ("b", [mark("x"), ("say", 0), STOP]),
                 ("c", [STOP, mark("x", True), ("say", 0), ("say", 0), STOP])]
        self.told(parts, [0, 0], "stop")
        self.told(parts[:2], [0], "stop")


class Places(Runs):
    def loading(self, numbers, one, other):
        return [("main", [mark("start"), ("ask", other), ("load", one, other, "data"), mark("m"), ("say", one), STOP]),
                ("data", [STOP, mark("data"), ("numbers", numbers)])]

    def jumping(self, count, box):
        rows = []
        for number in range(count):
            rows = rows + [mark("abc"[number]), ("set", 0, number), ("say", 0), STOP]
        words = [mark("words"), ("table", list("abc"[:count]))]
        return [("main", [mark("start"), ("ask", box), ("jumpby", box, "words")] + rows), ("zoo", [STOP] + words)]

    def test_load_at_each_place(self):
        for numbers in ([5], [5, LEAST, GREATEST], [0] + list(range(100, 159))):
            for one, other in itertools.product(BOXES, BOXES):
                for place, number in enumerate(numbers):
                    self.told(self.loading(numbers, one, other), [number], "stop", [place])

    def test_load_at_no_place(self):
        for numbers in ([5], [5, 6, 7], [5] * 60):
            for place in (-1, -len(numbers), len(numbers), len(numbers) + 1, HUGE, -HUGE):
                for one, other in ((0, 0), (1, 2), (2, 3)):
                    self.told(self.loading(numbers, one, other), [], "place", [place])

    def test_load_leaves_the_box_that_tells_the_place(self):
        rows = [("set", 1, 2), ("load", 0, 1, "data"), *say(0, 1, 2, 3), STOP, mark("data"), ("numbers", [7, 8, 9])]
        self.told(part(*rows), [9, 2, 0, 0], "stop")

    def test_jumpby_at_each_place(self):
        for count in (1, 2, 3):
            for box in BOXES:
                for place in range(count):
                    self.told(self.jumping(count, box), [place], "stop", [place])

    def test_jumpby_at_no_place(self):
        for count in (1, 2, 3):
            for box in BOXES:
                for place in (-1, -count, count, count + 1, HUGE, -HUGE):
                    self.told(self.jumping(count, box), [], "place", [place])

    def test_jumpby_where_a_name_is_told_twice(self):
        rows = [("ask", 3), ("jumpby", 3, "words"), mark("a"), ("say", 3), STOP, mark("b"), STOP,
                mark("words"), ("table", ["b", "a", "b", "a"])]
        for place, answers in enumerate(([], [1], [], [3])):
            self.told(part(*rows), answers, "stop", [place])


class Ends(Runs):
    def test_stop(self):
        self.bounds(part(STOP), [], "stop", 1)
        self.bounds(part(("say", 0), ("set", 0, 3), ("say", 0), STOP), [0, 3], "stop", 4)
        self.bounds(part(("say", 0), mark("m"), ("jump", "n"), mark("n"), STOP), [0], "stop", 3)

    def test_ask(self):
        self.bounds(part(("ask", 0), STOP), [], "ask", 1)
        self.bounds(part(mark("m"), ("ask", 0), ("say", 0), ("jump", "m")), [4, 5], "ask", 7, [4, 5])

    def test_place(self):
        data = [mark("data"), ("numbers", [1, 2])]
        table = [mark("table"), ("table", ["start"])]
        self.bounds(part(("set", 1, 2), ("say", 1), ("load", 0, 1, "data"), STOP, *data), [2], "place", 3)
        self.bounds(part(("set", 1, -1), ("say", 1), ("load", 0, 1, "data"), STOP, *data), [-1], "place", 3)
        self.bounds(part(("set", 1, 1), ("say", 1), ("jumpby", 1, "table"), *table), [1], "place", 3)
        self.bounds(part(("set", 1, -1), ("say", 1), ("jumpby", 1, "table"), *table), [-1], "place", 3)

    def test_deep(self):
        self.bounds(part(("call", "start"), STOP), [], "deep", 41)
        self.bounds(part(("set", 1, 1), ("add", 0, 1), ("say", 0), ("call", "start"), STOP), list(range(1, 42)), "deep", 164)

    def test_forty_kept_rows_and_one_more(self):
        rows = [("ask", 0), ("set", 1, 1), ("call", "sub"), ("say", 1), STOP,
                mark("sub"), ("take", 0, 1), ("jumpif", 0, "more"), BACK,
                mark("more"), ("call", "sub"), ("say", 0), BACK]
        for kept in (1, 2, 39, 40):
            self.told(part(*rows), [0] * (kept - 1) + [1], "stop", [kept])
        self.told(part(*rows), [], "deep", [41])
        self.told(part(*rows), [], "deep", [42])

    def test_what_was_taken_off_counts_no_more(self):
        rows = [("ask", 0), ("set", 1, 1), mark("again"), ("call", "sub"), ("take", 0, 1), ("jumpif", 0, "again"),
                ("say", 0), STOP, mark("sub"), BACK]
        self.told(part(*rows), [0], "stop", [100])

    def test_empty(self):
        self.bounds(part(BACK), [], "empty", 1)
        self.bounds(part(("say", 3), ("call", "sub"), BACK, mark("sub"), ("say", 2), BACK), [0, 0], "empty", 5)

    def test_steps(self):
        for steps in (0, 1, 2, 3, 499, 500):
            self.told(part(("jump", "start")), [], "steps", steps=steps)
            self.told(part(("say", 0), ("jump", "start")), [0] * ((steps + 1) // 2), "steps", steps=steps)

    def test_the_bound_is_looked_at_ahead_of_each_row(self):
        rows = [("say", 0), STOP]
        for row, word in ((STOP, "stop"), (BACK, "empty"), (("ask", 0), "ask")):
            self.told(part(("say", 0), row, STOP), [0], "steps", steps=1)
            self.told(part(("say", 0), row, STOP), [0], word, steps=2)
        self.told(part(*rows), [], "steps", steps=0)

    def test_a_start_within_a_part(self):
        parts = [("b", [STOP, ("say", 0), mark("x"), ("set", 0, 2), mark("y", True), ("say", 0), STOP]), ("a", [STOP])]
        self.told(parts, [2], "stop", start="x")
        self.told(parts, [0], "stop", start="y")


class NoStarts(Runs):
    def refused(self, parts, start, error, **fields):
        before = copy.deepcopy(parts)
        for steps in (0, 500):
            with self.assertRaises(error) as caught:
                run_names(parts, start, [1], steps)
            self.assertIs(type(caught.exception), error)
            self.assertEqual(vars(caught.exception), fields)
            self.assertEqual(parts, before)

    def test_names_that_stand_at_no_code_row(self):
        parts = [("main", [mark("start"), STOP, mark("nums"), ("numbers", [1]), mark("tab"), ("table", ["start"])]),
                 ("other", [mark("x"), STOP, mark("y", True), STOP])]
        for start in ("nums", "tab", "main", "other", "nothing", "stop"):
            with self.subTest(start):
                self.refused(parts, start, NoStart, name=start)

    def test_what_is_no_word(self):
        for start in ("", "Start", "start ", "startstart", "start\n", "a1", None, True, False, 0, 1, ("main", 0), (), [],
                      ["start"], {}, {"start": 1}):
            with self.subTest(repr(start)):
                self.refused(part(STOP), start, NoStart, name=start)

    def test_who_stands_is_looked_at(self):
        weak_at_code = ("a", [mark("x"), STOP])
        strong_at_data = ("b", [mark("x", True), ("numbers", [1])])
        self.told([weak_at_code], [], "stop", start="x")
        self.refused([weak_at_code, strong_at_data], "x", NoStart, name="x")
        weak_at_data = ("a", [mark("x"), ("numbers", [1])])
        strong_at_code = ("b", [mark("x", True), STOP])
        self.told([weak_at_data, strong_at_code], [], "stop", start="x")

    def test_what_is_wrong_with_the_parts_goes_ahead(self):
        for start in ("start", "nothing", None, []):
            with self.subTest(repr(start)):
                self.refused([], start, BadParts)
                self.refused(None, start, BadParts)
                self.refused(part(STOP) + part(STOP), start, BadParts)
                self.refused(part(("say", 4), STOP), start, BadRow, part="main", row=1)
                self.refused(part(("say", 3)), start, NoEnd, part="main", row=1)
                with self.assertRaises(Twice) as caught:
                    run_names(part(mark("start", True), STOP), start, [], 5)
                self.assertEqual((caught.exception.name, caught.exception.parts), ("start", ["main"]))
                self.refused(part(mark("m"), STOP, ("jump", "gone")), start, Lacking, name="gone", part="main", row=1)
                self.refused(part(mark("m"), STOP, ("load", 0, 0, "m"), STOP), start, WrongAim, name="m", part="main", row=1)

    def test_parts_that_the_run_does_not_come_to_are_looked_at_too(self):
        parts = part(STOP) + [("other", [("jump", "gone")])]
        self.refused(parts, "start", Lacking, name="gone", part="other", row=0)


class TheAskersOwn(Runs):
    def test_the_answers_are_a_new_list(self):
        parts = part(("ask", 0), ("say", 0), STOP)
        first = run_names(parts, "start", [3], 500)
        first[0].append(9)
        second = run_names(parts, "start", [3], 500)
        self.assertEqual(second, ([3], "stop"))
        second[0].clear()
        self.told(parts, [3], "stop", [3])

    def test_what_is_changed_later_changes_nothing(self):
        inputs = [3]
        numbers = [7]
        parts = part(("load", 0, 1, "data"), ("say", 0), ("ask", 0), ("say", 0), STOP, mark("data"), ("numbers", numbers))
        ran = run_names(parts, "start", inputs, 500)
        inputs[0] = 4
        numbers[0] = 8
        self.assertEqual(ran, ([7, 3], "stop"))
        self.assertEqual(run_names(parts, "start", inputs, 500), ([8, 4], "stop"))


def plain_run(parts, start, inputs, steps):
    """Done otherwise than by the program: one long list of rows, names as numbers in it, strong marks alone."""
    rows, names = [], {}
    for name, told in parts:
        for row in told:
            if row[0] == "mark":
                names[row[1]] = len(rows)
            else:
                rows.append(row)
    box, kept, answers, left, at = [0] * 4, [], [], list(inputs), names[start]
    while True:
        if steps == 0:
            return answers, "steps"
        steps -= 1
        kind, *more = rows[at]
        at += 1
        if kind == "stop":
            return answers, "stop"
        if kind == "set":
            box[more[0]] = more[1]
        if kind == "add":
            box[more[0]] = box[more[0]] + box[more[1]]
        if kind == "take":
            box[more[0]] = box[more[0]] - box[more[1]]
        if kind == "say":
            answers.append(box[more[0]])
        if kind == "ask":
            if not left:
                return answers, "ask"
            box[more[0]] = left.pop(0)
        if kind == "jump" or kind == "jumpif" and box[more[0]]:
            at = names[more[-1]]
        if kind == "call":
            if len(kept) > 39:
                return answers, "deep"
            kept.append(at)
            at = names[more[0]]
        if kind == "back":
            if not kept:
                return answers, "empty"
            at = kept.pop()
        if kind in ("load", "jumpby"):
            told = rows[names[more[-1]]][1]
            if box[more[-2]] not in range(len(told)):
                return answers, "place"
            if kind == "load":
                box[more[0]] = told[box[more[1]]]
            else:
                at = names[told[box[more[0]]]]
        if kind == "alike":
            box[more[0]] = int(names[more[1]] == names[more[2]])


def any_row(chance, names, tables, lists):
    box, other = chance.choice(BOXES), chance.choice(BOXES)
    return chance.choice([
        ("set", box, chance.randint(-1, 3)), ("add", box, other), ("take", box, other), ("say", box), ("say", box),
        ("ask", box), ("jump", chance.choice(names)), ("jumpif", box, chance.choice(names)), ("call", chance.choice(names)),
        ("call", chance.choice(names)), BACK, ("load", box, other, chance.choice(lists)),
        ("jumpby", box, chance.choice(tables)), ("alike", box, chance.choice(names + lists), chance.choice(names + lists))])


def any_parts(chance):
    count = chance.randint(1, 4)
    names = ["n" + "abcdefgh"[k] + "xyz"[j] for k in range(count) for j in range(3)]
    tables = ["t" + "abcdefgh"[k] for k in range(count)]
    lists = ["l" + "abcdefgh"[k] for k in range(count)]
    parts = []
    for k in range(count):
        rows = []
        for j in range(3):
            rows.append(mark(names[3 * k + j], True))
            for turn in range(chance.randint(0, 4)):
                rows.append(any_row(chance, names, tables, lists))
        rows.append(chance.choice([STOP, BACK, ("jump", chance.choice(names))]))
        rows += [mark(tables[k], True), ("table", chance.choices(names, k=3))]
        rows += [mark(lists[k], True), ("numbers", [chance.randint(-3, 9) for turn in range(3)])]
        parts.append(("abcdefgh"[k], rows))
    return parts, names


class ManyRuns(Runs):
    def test_against_another_runner(self):
        chance = random.Random(11)
        ends = {}
        for turn in range(800):
            parts, names = any_parts(chance)
            start = chance.choice(names)
            inputs = [chance.randint(-1, 3) for number in range(chance.randint(0, 9))]
            steps = chance.choice([0, 1, 5, 20, 100, 500])
            answers, end = plain_run(parts, start, inputs, steps)
            ends[end] = True
            chance.shuffle(parts)
            self.told(parts, answers, end, inputs, steps, start)
        self.assertEqual(sorted(ends), ["ask", "deep", "empty", "place", "steps", "stop"])


class Interface(unittest.TestCase):
    def test_the_arguments_have_their_names(self):
        self.assertEqual(run_names(parts=part(STOP), start="start", inputs=[], steps=1), ([], "stop"))


if __name__ == "__main__":
    unittest.main()
