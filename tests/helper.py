"""What several tests share: rows that fill in, wrong parts, and a look at refusals."""

import copy
import itertools
import unittest

from farjump.errors import BadParts, BadRow, Lacking, NoEnd, Twice, WrongAim

STOP = ("stop",)
BACK = ("back",)
HUGE = 10 ** 60 - 1
NO_BORDERS = [0, -1, -64, 65, 66, 100, HUGE, -HUGE, True, False, None, "1", "", [1], (1,), {}]

# Rows that may be short or long, each with the row at which it may aim and that one's length.
AIMING = [
    (("jump", "aim"), STOP, 1),
    (("jumpif", 1, "aim"), STOP, 1),
    (("call", "aim"), STOP, 1),
    (("load", 1, 2, "aim"), ("numbers", [7]), 6),
    (("jumpby", 1, "aim"), ("table", ["m"]), 4),
]


def mark(name, strong=True):
    return ("mark", name, strong)


def filled(cells):
    """Rows of just so many cells in all, few of them; where there are any, a code row comes first."""
    rows = [STOP] * min(cells, 1)
    left = cells - len(rows)
    while left >= 6:
        count = min(60, (left - 2) // 4)
        rows.append(("numbers", [0] * count))
        left -= 2 + 4 * count
    return rows + [STOP] * left


def in_each_order(parts):
    return [list(some) for some in itertools.permutations(parts)]


# Parts that are not let by, each with its refusal and the refusal's fields.
WRONG_PARTS = [
    (BadParts, [], {}),
    (BadParts, None, {}),
    (BadParts, [("a", [])], {}),
    (BadParts, [("a", [STOP]), ("a", [STOP])], {}),
    (BadRow, [("a", [("say", 4), STOP])], {"part": "a", "row": 0}),
    (NoEnd, [("a", [("say", 3)])], {"part": "a", "row": 0}),
    (Twice, [("a", [mark("x"), mark("x"), STOP])], {"name": "x", "parts": ["a"]}),
    (Lacking, [("a", [STOP, ("jump", "gone")])], {"name": "gone", "part": "a", "row": 1}),
    (Lacking, [("a", [mark("s"), STOP]), ("b", [("jump", "gone")])], {"name": "gone", "part": "b", "row": 0}),
    (WrongAim, [("a", [mark("x"), ("numbers", [1]), ("jump", "x")])], {"name": "x", "part": "a", "row": 1}),
]


class Refusals(unittest.TestCase):
    def refused(self, error, asked, given):
        """The fields of the refusal; what was handed in stays as it was."""
        before = copy.deepcopy(given)
        with self.assertRaises(error) as caught:
            asked(*given)
        self.assertIs(type(caught.exception), error)
        self.assertEqual(given, before)
        return vars(caught.exception)
