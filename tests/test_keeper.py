"""Promise 44 (with 39 and 40), and of promise 2 that what is handed in and what is told is the asker's own."""

import copy
import itertools
import random
import unittest

from farjump.errors import BadBase, BadParts, BadRow, Lacking, NoEnd, NoName, PartError, TooFar, Twice, WrongAim
from farjump.keeper import Keeper
from farjump.laid import Image, laid
from farjump.layout import least_layout
from tests.helper import BACK, HUGE, NO_BORDERS, STOP, WRONG_PARTS, Refusals, filled, lively_parts, mark

NO_BASES = [-1, -64, -HUGE, True, False, None, "0", [0], (0,), {}]
NO_WORDS = ["", "X", "a1", "toolongaword", "a ", "\n", None, 0, True, [], ["a"], ("a",), {}, {"a": 1}]
NO_PARTS = [None, 5, True, "a", "ab", [], ["a", [STOP]], {}, {"a": [STOP]}, (), ("a",), ("a", [STOP], 1), ([STOP], "a"), ("A", [STOP]),
            ("", [STOP]), ("toolongaword", [STOP]), (None, [STOP]), (1, [STOP]), (True, [STOP]), (["a"], [STOP]), (("a",), [STOP]),
            ({}, [STOP]), ("a ", [STOP]), ("a\n", [STOP])]


def all_told(image):
    return (image.cells(), image.base(), image.border(), image.part_places(), image.moves())


def keeper_with(*parts, base=0, border=1):
    keeper = Keeper(base, border)
    for part in parts:
        keeper.put(part)
    return keeper


def first_refusal(keeper):
    try:
        keeper.build()
    except PartError as error:
        return (type(error), vars(error))
    return None


class Keeps(Refusals):
    def builds(self, keeper, parts, base=0, border=1):
        image = keeper.build()
        self.assertIs(type(image), Image)
        self.assertEqual(all_told(image), all_told(laid(parts, base, border)))

    def touches(self, keeper, *names):
        for turn in range(2):
            self.assertEqual(keeper.touched(), list(names))
            self.assertIs(type(keeper.touched()), list)

    def builds_refused(self, keeper, error, **fields):
        """Refused, and what was built ahead stays, for touched too."""
        ahead = keeper.touched()
        for turn in range(2):
            self.assertEqual(self.refused(error, keeper.build, ()), fields)
            self.assertEqual(keeper.touched(), ahead)


class Bases(Keeps):
    def test_base_and_border_left_out(self):
        parts = [("b", [mark("x"), STOP]), ("a", [("jump", "x")])]
        for keeper in (Keeper(), Keeper(0), Keeper(0, 1), Keeper(base=0), Keeper(border=1), Keeper(base=0, border=1)):
            for part in parts:
                keeper.put(part)
            self.builds(keeper, parts)
            self.assertEqual(all_told(keeper.build()), ([80, 0, 99], 0, 1, {"a": 0, "b": 2}, []))
        keeper = Keeper(7)
        keeper.put(("a", [STOP]))
        self.assertEqual(all_told(keeper.build()), ([99], 7, 1, {"a": 7}, []))
        keeper = Keeper(border=4)
        keeper.put(("a", [STOP]))
        self.assertEqual(all_told(keeper.build()), ([99], 0, 4, {"a": 0}, []))

    def test_bases_and_borders(self):
        parts = [("b", [mark("x"), STOP]), ("a", [("jump", "x")]), ("c", [BACK])]
        for border in (1, 2, 3, 63, 64):
            for base in (0, border, 5 * border, 1000 * border):
                self.builds(keeper_with(*parts, base=base, border=border), parts, base, border)

    def test_what_is_no_border(self):
        for border in NO_BORDERS:
            for base in [0, 64] + NO_BASES:
                self.assertEqual(self.refused(BadBase, Keeper, (base, border)), {})

    def test_what_is_no_base(self):
        for border in (1, 2, 64):
            for base in NO_BASES:
                self.assertEqual(self.refused(BadBase, Keeper, (base, border)), {})
        for base, border in ((1, 2), (3, 2), (63, 64), (65, 64), (1, 64), (32, 64), (10, 3), (HUGE, 2)):
            self.assertEqual(self.refused(BadBase, Keeper, (base, border)), {})
        for base in NO_BASES:
            self.assertEqual(self.refused(BadBase, Keeper, (base,)), {})

    def test_a_base_far_away_is_refused_only_when_it_is_built(self):
        keeper = keeper_with(("a", [STOP]), base=65536)
        self.builds_refused(keeper, TooFar)
        keeper = keeper_with(("a", [STOP]), base=10 ** 59)
        self.builds_refused(keeper, TooFar)
        self.builds(keeper_with(("a", [STOP]), base=65535), [("a", [STOP])], 65535)


class PutAndDropped(Keeps):
    def test_what_is_no_part(self):
        for part in NO_PARTS:
            keeper = keeper_with(("a", [STOP]))
            self.assertEqual(self.refused(BadParts, keeper.put, (part,)), {})
            self.builds(keeper, [("a", [STOP])])
            self.assertEqual(self.refused(BadParts, Keeper().put, (part,)), {})

    def test_nothing_comes_back(self):
        keeper = Keeper()
        self.assertIsNone(keeper.put(("a", [STOP])))
        self.assertIsNone(keeper.put(("a", [BACK])))
        self.assertIsNone(keeper.drop("a"))

    def test_a_part_put_again_stands_in_the_place_of_the_one_ahead(self):
        keeper = keeper_with(("a", [STOP]), ("b", [BACK]), ("a", [("say", 1), BACK]))
        self.builds(keeper, [("a", [("say", 1), BACK]), ("b", [BACK])])
        keeper.put(("b", [STOP, STOP]))
        self.builds(keeper, [("a", [("say", 1), BACK]), ("b", [STOP, STOP])])

    def test_a_part_dropped(self):
        keeper = keeper_with(("a", [STOP]), ("b", [BACK]))
        keeper.drop("a")
        self.builds(keeper, [("b", [BACK])])
        keeper.put(("a", [STOP, STOP]))
        self.builds(keeper, [("b", [BACK]), ("a", [STOP, STOP])])

    def test_names_that_are_not_there(self):
        keeper = keeper_with(("a", [mark("x"), STOP]), ("b", [STOP]))
        keeper.drop("b")
        for name in ["b", "x", "c", "aa"] + NO_WORDS:
            self.assertEqual(self.refused(NoName, keeper.drop, (name,)), {"name": name})
            self.assertEqual(self.refused(NoName, Keeper().drop, (name,)), {"name": name})
        self.builds(keeper, [("a", [mark("x"), STOP])])
        keeper.drop("a")
        self.assertEqual(self.refused(NoName, keeper.drop, ("a",)), {"name": "a"})

    def test_no_parts(self):
        self.builds_refused(Keeper(), BadParts)
        keeper = keeper_with(("a", [STOP]))
        keeper.drop("a")
        self.builds_refused(keeper, BadParts)

    def test_parts_that_lack_something_when_put(self):
        parts = [("a", [mark("s"), ("call", "x"), ("jump", "y")]), ("b", [mark("x"), ("load", 0, 1, "n"), BACK]),
                 ("c", [mark("y"), ("alike", 0, "s", "x"), STOP, mark("n"), ("numbers", [1])])]
        for some in itertools.permutations(parts):
            keeper = Keeper(6, 3)
            for number, part in enumerate(some):
                keeper.put(part)
                if number < 2:
                    self.assertIsNotNone(first_refusal(keeper))
            self.builds(keeper, parts, 6, 3)
            self.touches(keeper, "a", "b", "c")

    def test_anything_may_stand_in_the_rows_place(self):
        for rows in (None, [], (), "rows", 5, True, {}, [None], [("say", 4)], [("say", 1)], [mark("x")], [STOP] * 61, [("jump", "gone")],
                     (STOP,), [[STOP]], [["stop"]], {"a": STOP}):
            keeper = Keeper()
            keeper.put(("a", rows))
            self.assertIsNotNone(first_refusal(keeper))
            keeper.put(("a", [STOP]))
            self.builds(keeper, [("a", [STOP])])

    def test_more_than_twelve_parts(self):
        names = "abcdefghijklm"
        keeper = keeper_with(*[(name, [STOP]) for name in names])
        self.builds_refused(keeper, BadParts)
        keeper.drop("c")
        self.builds(keeper, [(name, [STOP]) for name in names if name != "c"])


class Orders(Keeps):
    """In which order they are handed on is seen by which refusal comes first."""

    def order(self, keeper, names):
        """Each part's row lacks a name: dropped one by one, the first ones tell the order."""
        for name in names:
            self.assertEqual(first_refusal(keeper), (Lacking, {"name": "no" + name, "part": name, "row": 0}))
            keeper.drop(name)
        self.assertEqual(first_refusal(keeper), (BadParts, {}))

    def lacking(self, names):
        return keeper_with(*[(name, [("jump", "no" + name)]) for name in names])

    def test_the_order_in_which_they_were_put(self):
        for names in itertools.permutations("abcd"):
            self.order(self.lacking(names), names)

    def test_a_part_put_again_keeps_its_place(self):
        for again in "abcd":
            keeper = self.lacking("cbad")
            keeper.put((again, [STOP]))
            keeper.put((again, [("call", "no" + again), STOP]))
            self.order(keeper, "cbad")

    def test_a_part_dropped_and_put_again_stands_last(self):
        for again in "abcd":
            keeper = self.lacking("cbad")
            keeper.drop(again)
            keeper.put((again, [("call", "no" + again), STOP]))
            self.order(keeper, "cbad".replace(again, "") + again)

    def test_a_refusal_changes_no_order(self):
        keeper = self.lacking("cab")
        self.refused(BadParts, keeper.put, (("a", [STOP], 1),))
        self.refused(NoName, keeper.drop, ("x",))
        self.order(keeper, "cab")

    def test_wrong_rows_too(self):
        wrong = [("b", [("say", 4), STOP]), ("a", [None, STOP]), ("c", [("mark",), STOP])]
        for some in itertools.permutations(wrong):
            self.assertEqual(first_refusal(keeper_with(*some)), (BadRow, {"part": some[0][0], "row": 0}))


class Refused(Keeps):
    def test_as_laid_refuses(self):
        for error, parts, fields in WRONG_PARTS:
            if parts and all(len(part) == 2 for part in parts) and len({part[0] for part in parts}) == len(parts):
                self.builds_refused(keeper_with(*parts), error, **fields)

    def test_each_class_and_the_build_ahead_stays(self):
        keeper = keeper_with(("b", [mark("x"), STOP]), ("a", [("jump", "x")]), base=60000)
        self.builds(keeper, [("b", [mark("x"), STOP]), ("a", [("jump", "x")])], 60000)
        self.touches(keeper, "a", "b")
        self.builds(keeper, [("b", [mark("x"), STOP]), ("a", [("jump", "x")])], 60000)
        keeper.put(("b", [mark("x"), ("say", 1), STOP]))
        self.builds(keeper, [("b", [mark("x"), ("say", 1), STOP]), ("a", [("jump", "x")])], 60000)
        self.touches(keeper, "b")
        for rows, error, fields in (
                ([], BadParts, {}),
                ([STOP, ("say", 4)], BadRow, {"part": "c", "row": 1}),
                ([("say", 3)], NoEnd, {"part": "c", "row": 0}),
                ([mark("x"), STOP], Twice, {"name": "x", "parts": ["b", "c"]}),
                ([("jump", "gone")], Lacking, {"name": "gone", "part": "c", "row": 0}),
                ([("jumpby", 0, "x")], WrongAim, {"name": "x", "part": "c", "row": 0}),
                (filled(6000), TooFar, {})):
            keeper.put(("c", rows))
            self.builds_refused(keeper, error, **fields)
            self.touches(keeper, "b")
        keeper.drop("c")
        # What is compared with is the last build that was not refused.
        self.builds(keeper, [("b", [mark("x"), ("say", 1), STOP]), ("a", [("jump", "x")])], 60000)
        self.touches(keeper)

    def test_refused_before_any_build(self):
        keeper = keeper_with(("a", [("jump", "gone")]))
        self.builds_refused(keeper, Lacking, name="gone", part="a", row=0)
        self.touches(keeper)
        keeper.put(("a", [STOP]))
        keeper.build()
        self.touches(keeper, "a")

    def test_too_far(self):
        parts = [("a", [STOP]), ("b", [STOP])]
        self.builds_refused(keeper_with(*parts, base=65535), TooFar)
        self.builds_refused(keeper_with(*parts, base=65472, border=64), TooFar)
        self.builds(keeper_with(*parts, base=65534), parts, 65534)


class Touched(Keeps):
    def test_before_any_build(self):
        keeper = Keeper()
        self.touches(keeper)
        keeper.put(("a", [STOP]))
        self.touches(keeper)

    def test_behind_the_first_build_all(self):
        keeper = keeper_with(("c", [STOP]), ("a", [STOP]), ("b", [STOP]), ("ab", [STOP]))
        keeper.build()
        self.touches(keeper, "a", "ab", "b", "c")

    def test_behind_a_build_that_changed_nothing(self):
        keeper = keeper_with(("c", [STOP]), ("a", [STOP]))
        keeper.build()
        keeper.build()
        self.touches(keeper)
        keeper.put(("a", [STOP]))
        keeper.put(("c", [mark("x"), mark("y", False), STOP]))
        self.touches(keeper)
        keeper.build()
        self.touches(keeper)
        keeper.drop("a")
        keeper.put(("a", [mark("z"), STOP]))
        keeper.build()
        self.touches(keeper)

    def test_it_tells_of_the_last_build_whatever_is_put_behind(self):
        keeper = keeper_with(("a", [STOP]), ("b", [STOP]))
        keeper.build()
        keeper.put(("a", [BACK]))
        keeper.drop("b")
        self.touches(keeper, "a", "b")
        keeper.build()
        self.touches(keeper, "a")

    def test_behind_other_cells_of_one_part(self):
        keeper = keeper_with(("a", [STOP]), ("b", [STOP]), ("c", [STOP]))
        keeper.build()
        for name, rows in (("a", [BACK]), ("b", [BACK]), ("c", [("say", 1), STOP]), ("c", [BACK, BACK]), ("c", [BACK]), ("b", [STOP])):
            keeper.put((name, rows))
            keeper.build()
            self.touches(keeper, name)

    def test_behind_a_change_that_moves_others(self):
        keeper = keeper_with(("c", [STOP]), ("b", [STOP]), ("a", [STOP]), ("d", [STOP]))
        keeper.build()
        keeper.put(("b", [("say", 0), STOP]))
        keeper.build()
        self.touches(keeper, "b", "c", "d")
        keeper.put(("b", [STOP, STOP]))
        keeper.build()
        self.touches(keeper, "b")

    def test_with_a_border_the_others_may_stay(self):
        keeper = keeper_with(("a", [STOP]), ("b", [STOP]), ("c", [STOP]), border=4)
        keeper.build()
        keeper.put(("a", [STOP] * 4))
        keeper.build()
        self.touches(keeper, "a")
        keeper.put(("a", [STOP] * 5))
        keeper.build()
        self.touches(keeper, "a", "b", "c")

    def test_what_fills_up_to_the_border_is_no_part_s_own(self):
        keeper = keeper_with(("a", [STOP]), ("b", [STOP]), ("c", [STOP]), border=4)
        keeper.build()
        keeper.drop("c")
        keeper.build()
        self.touches(keeper)
        keeper.put(("z", [STOP]))
        keeper.build()
        self.touches(keeper, "z")
        keeper.drop("b")
        keeper.drop("z")
        keeper.build()
        self.touches(keeper)

    def test_noughts_of_its_own_at_the_end_of_a_part_count(self):
        # All cells but the count stay as they were, only whose they are is another.
        rows = [STOP] * 4 + [("numbers", [0])]
        keeper = keeper_with(("a", rows), ("b", [STOP]), border=64)
        ahead = keeper.build().cells()
        keeper.put(("a", [STOP] * 4 + [("numbers", [0, 0])]))
        self.assertEqual(keeper.build().cells()[6:], ahead[6:])
        self.touches(keeper, "a")

    def test_behind_another_aim_of_rows_that_stay(self):
        # The rows of a are the same, but what they aim at has moved.
        keeper = keeper_with(("a", [("jump", "x")]), ("b", [mark("x"), STOP, STOP]))
        keeper.build()
        keeper.put(("b", [STOP, mark("x"), STOP]))
        keeper.build()
        self.touches(keeper, "a")

    def test_behind_an_aim_that_grows_long(self):
        keeper = keeper_with(("a", [("jump", "x")]), ("b", filled(100)), ("c", [mark("x"), STOP]))
        keeper.build()
        keeper.put(("b", filled(128)))
        keeper.build()
        self.touches(keeper, "a", "b", "c")

    def test_behind_a_part_dropped(self):
        keeper = keeper_with(("a", [STOP]), ("b", [STOP]), ("c", [STOP]))
        keeper.build()
        keeper.drop("c")
        keeper.build()
        self.touches(keeper)
        keeper.drop("a")
        keeper.build()
        self.touches(keeper, "b")

    def test_a_part_dropped_and_put_again_over_builds(self):
        keeper = keeper_with(("a", [STOP]), ("b", [STOP]))
        keeper.build()
        keeper.drop("b")
        keeper.build()
        self.touches(keeper)
        keeper.put(("b", [STOP]))
        keeper.build()
        self.touches(keeper, "b")
        # Within one build to the next it is as if nothing had been done.
        keeper.drop("b")
        keeper.put(("b", [STOP]))
        keeper.build()
        self.touches(keeper)

    def test_a_new_name_with_the_same_cells(self):
        keeper = keeper_with(("a", [STOP]))
        keeper.build()
        keeper.drop("a")
        keeper.put(("b", [STOP]))
        keeper.build()
        self.touches(keeper, "b")

    def test_a_place_that_is_another_though_the_cells_are_the_same(self):
        keeper = keeper_with(("b", [STOP]))
        keeper.build()
        keeper.put(("a", [STOP]))
        keeper.build()
        self.touches(keeper, "a", "b")

    def test_two_keepers_know_nothing_of_one_another(self):
        one, other = keeper_with(("a", [STOP])), keeper_with(("b", [STOP]))
        one.build()
        self.touches(other)
        other.build()
        self.touches(one, "a")
        self.touches(other, "b")
        one.drop("a")
        self.refused(NoName, one.drop, ("a",))
        self.builds(other, [("b", [STOP])])


class TheAskersOwn(Keeps):
    def test_what_was_put_changed_behind_changes_nothing(self):
        numbers, names = [1, 2], ["x"]
        rows = [mark("x"), STOP, ("numbers", numbers), ("table", names)]
        keeper = Keeper()
        keeper.put(("a", rows))
        right = copy.deepcopy([("a", rows)])
        numbers[0] = 9
        names.append("gone")
        rows[1] = None
        rows.append(("jump", "nobody"))
        self.builds(keeper, right)
        rows.clear()
        numbers.clear()
        self.builds(keeper, right)
        self.touches(keeper)

    def test_what_was_wrong_when_put_stays_wrong(self):
        rows = []
        keeper = Keeper()
        keeper.put(("a", rows))
        rows.append(STOP)
        self.builds_refused(keeper, BadParts)
        words = []
        keeper.put(("a", [mark("x"), STOP, ("table", words)]))
        words.append("x")
        self.builds_refused(keeper, BadRow, part="a", row=2)

    def test_what_was_put_is_not_changed(self):
        parts = [("a", [mark("x"), ("jump", "x"), ("numbers", [1])]), ("b", [STOP, ("table", ["x"])])]
        before = copy.deepcopy(parts)
        keeper = keeper_with(*parts)
        keeper.build()
        keeper.drop("a")
        self.refused(Lacking, keeper.build, ())
        self.assertEqual(parts, before)

    def test_the_names_touched_are_a_new_list(self):
        keeper = keeper_with(("a", [STOP]), ("b", [STOP]))
        keeper.touched().append("c")
        self.touches(keeper)
        keeper.build()
        first = keeper.touched()
        first.clear()
        self.touches(keeper, "a", "b")
        second = keeper.touched()
        keeper.build()
        self.assertEqual(second, ["a", "b"])

    def test_an_image_stays_as_it_was_told(self):
        keeper = keeper_with(("a", [mark("x"), STOP]), ("b", [("jump", "x"), ("table", ["x"])]))
        image = keeper.build()
        before = all_told(image)
        image.cells().clear()
        image.moves().clear()
        image.part_places().clear()
        keeper.put(("a", [STOP, mark("x"), STOP]))
        keeper.build()
        keeper.drop("b")
        keeper.build()
        self.assertEqual(all_told(image), before)
        self.assertEqual(image.place_of("x"), 0)

    def test_an_image_that_is_moved_changes_nothing(self):
        keeper = keeper_with(("a", [mark("x"), STOP]), ("b", [("jump", "x"), ("table", ["x"])]))
        keeper.build().moved(100)
        keeper.build()
        self.touches(keeper)


def names_touched(parts, ahead, base, border):
    """Reckoned from what is laid: for each part its place, and as many cells as its rows take."""
    def told(some):
        if some is None:
            return {}
        image, layout = laid(some, base, border), least_layout(some, border)
        places = image.part_places()
        return {part: (places[part], image.cells()[places[part] - base:][:sum(layout[part])]) for part in places}

    own, other = told(parts), told(ahead)
    return sorted(part for part in own if part not in other or own[part] != other[part])


class ByChance(Keeps):
    def test_any_changes(self):
        chance = random.Random(44)
        refused, some_touched, none_touched = 0, 0, 0
        for turn in range(60):
            border = chance.choice([1, 4, 64])
            base = border * chance.choice([0, 3])
            keeper, kept, ahead = Keeper(base, border), [], None
            right_touched = []
            stock = lively_parts(chance) + lively_parts(chance)
            for step in range(30):
                change = chance.random()
                if change < 0.5:
                    part = chance.choice(stock)
                    keeper.put(part)
                    at = [number for number, one in enumerate(kept) if one[0] == part[0]]
                    kept[at[0] if at else len(kept):at[0] + 1 if at else len(kept)] = [part]
                elif change < 0.65 and kept:
                    gone = chance.choice(kept)
                    keeper.drop(gone[0])
                    kept.remove(gone)
                try:
                    right = all_told(laid(kept, base, border))
                except PartError as error:
                    refused += 1
                    self.assertEqual(first_refusal(keeper), (type(error), vars(error)))
                else:
                    self.assertEqual(all_told(keeper.build()), right)
                    right_touched = names_touched(kept, ahead, base, border)
                    ahead = list(kept)
                    some_touched += len(right_touched) in range(1, len(kept))
                    none_touched += not right_touched
                self.assertEqual(keeper.touched(), right_touched)
        self.assertGreater(refused, 100)
        self.assertGreater(some_touched, 20)
        self.assertGreater(none_touched, 50)


class Interface(unittest.TestCase):
    def test_the_arguments_have_their_names(self):
        keeper = Keeper(base=4, border=2)
        keeper.put(part=("a", [STOP]))
        self.assertEqual(keeper.build().base(), 4)
        keeper.drop(name="a")


if __name__ == "__main__":
    unittest.main()
