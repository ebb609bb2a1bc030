"""The plain runner: rows done one by one, over parts by their names."""

from farjump.names import at_place, let_by, start_place

MOST_KEPT = 40


class NamedRows:
    def __init__(self, bare, places):
        self.bare = bare
        self.places = places

    def code_at(self, place):
        part, number = place
        return (at_place(self.bare, place).by_places(self.places), (part, number + 1))

    def numbers_at(self, place):
        return at_place(self.bare, place).words()[1]

    def table_at(self, place):
        return at_place(self.bare, place).by_places(self.places)[1]


# Knows no names: rows come by places, and what the places are is known to the store alone.
class Run:
    def __init__(self, store, inputs):
        self.store = store
        self.inputs = inputs
        self.used = 0
        self.boxes = [0, 0, 0, 0]
        self.kept = []
        self.answers = []
        self.end = None

    # Tells the place to go on at; behind a row at which the run ends nobody asks for it.
    def do_row(self, row, behind):
        kind = row[0]
        if kind == "jump":
            return row[1]
        if kind == "jumpif":
            return behind if self.boxes[row[1]] == 0 else row[2]
        if kind == "call":
            return self.do_call(row[1], behind)
        if kind == "back":
            return self.do_back(behind)
        if kind == "jumpby":
            return self.do_jumpby(self.boxes[row[1]], self.store.table_at(row[2]), behind)
        if kind == "stop":
            self.end = "stop"
        else:
            self.do_in_boxes(row)
        return behind

    def do_call(self, aim, behind):
        if len(self.kept) == MOST_KEPT:
            self.end = "deep"
            return behind
        self.kept.append(behind)
        return aim

    def do_back(self, behind):
        if len(self.kept) == 0:
            self.end = "empty"
            return behind
        return self.kept.pop()

    def do_jumpby(self, number, table, behind):
        if not 0 <= number < len(table):
            self.end = "place"
            return behind
        return table[number]

    def do_in_boxes(self, row):
        kind = row[0]
        box = row[1]
        if kind == "set":
            self.boxes[box] = row[2]
        elif kind == "add":
            self.boxes[box] += self.boxes[row[2]]
        elif kind == "take":
            self.boxes[box] -= self.boxes[row[2]]
        elif kind == "say":
            self.answers.append(self.boxes[box])
        elif kind == "ask":
            self.do_ask(box)
        elif kind == "load":
            self.do_load(box, self.boxes[row[2]], self.store.numbers_at(row[3]))
        else:
            self.boxes[box] = 1 if row[2] == row[3] else 0

    def do_ask(self, box):
        if self.used == len(self.inputs):
            self.end = "ask"
            return
        self.boxes[box] = self.inputs[self.used]
        self.used += 1

    def do_load(self, box, number, numbers):
        if not 0 <= number < len(numbers):
            self.end = "place"
            return
        self.boxes[box] = numbers[number]


def run_over(store, place, inputs, steps):
    run = Run(store, inputs)
    for step in range(steps):
        row, behind = store.code_at(place)
        place = run.do_row(row, behind)
        if run.end is not None:
            return (run.answers, run.end)
    return (run.answers, "steps")


def run_names(parts, start, inputs, steps):
    bare, places = let_by(parts)
    place = start_place(bare, places, start)
    return run_over(NamedRows(bare, places), place, inputs, steps)
