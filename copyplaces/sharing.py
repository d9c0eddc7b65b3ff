"""Runs by sharing: cells, what is shown, and which names are stale [8]."""

from copyplaces.values import values_behind
from copyplaces.walks import shown_along


class Cells:
    """The cells of the names, and the values of the cells, in a run by sharing."""

    def __init__(self, names, copying):
        self.copying = copying
        self.cell_of = list(range(names))
        # Cells are numbered as they come, so a new one is new for all names.
        self.value_in = [()] * names

    def value_of(self, x):
        """Return the value of the cell of the name x."""
        return self.value_in[self.cell_of[x]]

    def do(self, statement):
        """Do a statement that is passed; a spot changes nothing."""
        if statement[0] == "fresh":
            self._renew(statement[1], ())
        elif statement[0] == "give":
            _, label, x, y = statement
            if label in self.copying:
                self._renew(x, self.value_of(y))
            else:
                self.cell_of[x] = self.cell_of[y]
        elif statement[0] == "change":
            _, label, x, mark = statement
            if label in self.copying:
                self._renew(x, self.value_of(x))
            self.value_in[self.cell_of[x]] += (mark,)

    def _renew(self, x, value):
        """Give the name x a new cell with the value."""
        self.cell_of[x] = len(self.value_in)
        self.value_in.append(value)


def run_shared(program, copying, ways):
    """Return what is shown, as a tuple of pairs of a spot and a value, and the end."""
    return shown_along(program, ways, Cells(program[0], copying))


def cells_behind(program, copying, ways):
    """Return for each name the least name that has the same cell behind the ways."""
    cells = _cells(program, copying, ways)
    # index finds the first name that has the cell, which is the least one.
    return tuple([cells.cell_of.index(cell) for cell in cells.cell_of])


def held_behind(program, copying, ways):
    """Return for each name the value of its cell behind the ways."""
    cells = _cells(program, copying, ways)
    return tuple([cells.value_of(x) for x in range(program[0])])


def stale_behind(program, copying, ways):
    """Return the ascending tuple of the names that are stale behind the ways."""
    held = held_behind(program, copying, ways)
    real = values_behind(program, ways)
    return tuple([x for x in range(program[0]) if held[x] != real[x]])


def _cells(program, copying, ways):
    """Return the cells as they are behind the ways."""
    cells = Cells(program[0], copying)
    shown_along(program, ways, cells)
    return cells
