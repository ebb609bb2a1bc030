"""The machine: cells read and done from a place on, the first of them standing at a base."""

from farjump.cells import read_code, read_numbers, read_table
from farjump.errors import NoCells
from farjump.runner import run_over


class PlacedCells:
    def __init__(self, own_cells, own_base):
        self.own_cells = own_cells
        self.own_base = own_base

    def read_with(self, reader, place):
        try:
            return reader(self.own_cells, place - self.own_base)
        except NoCells:
            # The reader counts from the first cell on, but the refusal has to tell the place from the base on.
            raise NoCells(place) from None

    def code_at(self, place):
        row, near, behind = self.read_with(read_code, place)
        if near is True:
            # A short aim is reckoned from where the row was read, a long one is written as it is laid.
            row = row[:-1] + (row[-1] + self.own_base,)
        return (row, behind + self.own_base)

    def numbers_at(self, place):
        return self.read_with(read_numbers, place)[0]

    def table_at(self, place):
        return self.read_with(read_table, place)[0]


def run_cells(cells, base, place, inputs, steps):
    return run_over(PlacedCells(cells, base), place, inputs, steps)
