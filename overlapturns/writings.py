"""Values written out, numbered so that the same writing has the same number."""


class Writings:
    """A world whose values are numbers of writings, each taken apart into its parts.

    The parts of a writing are ("known", name), ("cell", array, index), or ("work", word, row)
    with the row of the numbers of the arguments.
    """

    def __init__(self):
        self.numbers = {}
        self.parts = []
        self.heights = []

    def known(self, name):
        """Return the number of an input, a first value or a rubbish."""
        return self._number(("known", name))

    def cell(self, array, index):
        """Return the number of the first content of a cell."""
        return self._number(("cell", array, index))

    def work(self, word, arguments):
        """Return the number of what a function tells for a row of values."""
        return self._number(("work", word, arguments))

    def _number(self, parts):
        if parts not in self.numbers:
            self.numbers[parts] = len(self.parts)
            self.parts.append(parts)
            height = 0
            if parts[0] == "work":
                height = 1 + max([self.heights[argument] for argument in parts[2]])
            self.heights.append(height)
        return self.numbers[parts]
