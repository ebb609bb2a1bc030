"""What several tests share: rows that fill in, parts by chance, wrong parts, and a look at refusals."""

import copy
import itertools
import random
import unittest

from farjump.errors import BadParts, BadRow, Lacking, NoEnd, Twice, WrongAim
from farjump.names import bound, stands

STOP = ("stop",)
BACK = ("back",)
HUGE = 10 ** 60 - 1
NO_BORDERS = [0, -1, -64, 65, 66, 100, HUGE, -HUGE, True, False, None, "1", "", [1], (1,), {}]

# Rows that may be short or long, each with the row at which it may aim and that one's length.
AIMING = [
    (("jump", "aim"), STOP, 1),
    (("jumpif", 1, "aim"), STOP, 1),
    (("call", "aim"), STOP, 1),
    (("load", 1, 2, "aim"), ("numbers", [7]), 6),
    (("jumpby", 1, "aim"), ("table", ["m"]), 4),
]


def mark(name, strong=True):
    return ("mark", name, strong)


def filled(cells):
    """Rows of just so many cells in all, few of them; where there are any, a code row comes first."""
    rows = [STOP] * min(cells, 1)
    left = cells - len(rows)
    while left >= 6:
        count = min(60, (left - 2) // 4)
        rows.append(("numbers", [0] * count))
        left -= 2 + 4 * count
    return rows + [STOP] * left


def in_each_order(parts):
    return [list(some) for some in itertools.permutations(parts)]


def lively_row(form, code, numbers):
    box, other = form.randrange(4), form.randrange(4)
    return form.choice([
        ("set", box, form.choice([0, 1, 2, -1, 3, 2 ** 31 - 1, -2 ** 31])), ("add", box, other), ("take", box, other),
        ("say", box), ("say", box), ("say", box), ("ask", box), ("ask", box), ("jumpif", box, code()), ("jumpif", box, code()),
        ("call", code()), ("call", code()), ("call", code()), ("load", box, other, numbers()), ("load", box, other, numbers())])


def lively_part(form, part, chosen, asks_alike):
    """Each aim is drawn by the form, as one of the part's own names or a name of one that the form tells."""
    def aim(letters):
        return form.choice(letters) + (part if form.random() < 0.6 else form.choice(chosen))

    rows = []
    for letter in "xyz":
        rows += [mark(letter + part)] + [mark("w", False)] * (letter == "y")
        for turn in range(form.randint(0, 4)):
            rows.append(lively_row(form, lambda: aim("xyz"), lambda: aim("n")))
        if asks_alike and form.random() < 0.3:
            rows.append(("alike", form.randrange(4), aim("xyzn"), form.choice([aim("xyz"), "w"])))
        box = form.randrange(4)
        rows.append(form.choice([("jump", aim("xyz")), ("jump", "w"), ("jumpby", box, aim("t")), ("jumpby", box, aim("t")), BACK, BACK, STOP]))
        rows += filled(form.choice([0, 0, 1, 7, 60, 110]))
    rows += [mark("n" + part), ("numbers", [form.randint(-2, 4) for turn in range(form.randint(1, 5))])]
    rows += [mark("t" + part), ("table", [aim("xyz") for turn in range(form.randint(1, 4))])]
    return (part, rows)


def lively_parts(chance, most=5):
    """Parts of each kind of row, near and far from one another; those of one form may be alike."""
    chosen = chance.sample(["a", "b", "c", "ab", "zz", "m"], chance.randint(1, most))
    forms = [chance.random() for turn in range(chance.randint(1, 3))]
    asks_alike = chance.random() < 0.3
    return [lively_part(random.Random(chance.choice(forms)), part, chosen, asks_alike) for part in chosen]


def code_names(parts):
    """The names that stand at code rows."""
    rows_of = dict(bound(parts))
    return sorted(name for name, place in stands(parts).items() if rows_of[place[0]][place[1]][0] not in ("numbers", "table"))


# Parts that are not let by, each with its refusal and the refusal's fields.
WRONG_PARTS = [
    (BadParts, [], {}),
    (BadParts, None, {}),
    (BadParts, [("a", [])], {}),
    (BadParts, [("a", [STOP]), ("a", [STOP])], {}),
    (BadRow, [("a", [("say", 4), STOP])], {"part": "a", "row": 0}),
    (NoEnd, [("a", [("say", 3)])], {"part": "a", "row": 0}),
    (Twice, [("a", [mark("x"), mark("x"), STOP])], {"name": "x", "parts": ["a"]}),
    (Lacking, [("a", [STOP, ("jump", "gone")])], {"name": "gone", "part": "a", "row": 1}),
    (Lacking, [("a", [mark("s"), STOP]), ("b", [("jump", "gone")])], {"name": "gone", "part": "b", "row": 0}),
    (WrongAim, [("a", [mark("x"), ("numbers", [1]), ("jump", "x")])], {"name": "x", "part": "a", "row": 1}),
]


class Refusals(unittest.TestCase):
    def refused(self, error, asked, given):
        """The fields of the refusal; what was handed in stays as it was."""
        before = copy.deepcopy(given)
        with self.assertRaises(error) as caught:
            asked(*given)
        self.assertIs(type(caught.exception), error)
        self.assertEqual(given, before)
        return vars(caught.exception)
