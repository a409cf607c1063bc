"""The ends of runs."""

from overlapturns.errors import InvalidArray, InvalidNumber
from overlapturns.kinds import is_integer
from overlapturns.words import is_letter


class Outcome:
    """The end of a run: results, cells, and how often lines of each kind were gone through."""

    def __init__(self, machine, results, kinds):
        self._world = machine.world
        self._cells = {cell: machine.cells[cell] for cell in machine.cells}
        self._results = results
        self._stored = tuple(sorted(list(machine.cells)))
        self._loaded = tuple(sorted(list(machine.looked)))
        self._kinds = kinds

    @property
    def results(self):
        """The row of the results."""
        return self._results

    @property
    def stored(self):
        """The rising row of the cells that were stored into."""
        return self._stored

    @property
    def loaded(self):
        """The rising row of the cells that were loaded."""
        return self._loaded

    @property
    def kinds(self):
        """How often work, load, store, copy and step were gone through, and left looked at."""
        return self._kinds

    def value(self, array, index):
        """Return what stands in a cell at the end."""
        if not is_letter(array):
            raise InvalidArray(array)
        if not is_integer(index):
            raise InvalidNumber(index)
        if (array, index) in self._cells:
            return self._cells[(array, index)]
        return self._world.cell(array, index)

    def _all_of_it(self):
        cells = [self._cells[cell] for cell in self._stored]
        return (self._results, self._stored, self._loaded, self._kinds, cells)

    def __eq__(self, other):
        return isinstance(other, Outcome) and self._all_of_it() == other._all_of_it()
