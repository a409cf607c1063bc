"""Programs."""

from overlapturns.asking import check_count, check_world
from overlapturns.errors import InvalidNumber, InvalidText
from overlapturns.kinds import is_integer_within
from overlapturns.machines import Machine
from overlapturns.outcomes import Outcome
from overlapturns.programtexts import places_of, read_program
from overlapturns.statements import arrays_of, kinds_of, words_of
from overlapturns.walks import jumps_of, walk

# A place into which nothing was put holds its rubbish, which worlds know by this mark and its name.
RUBBISH = "?"


class Program:
    """A program, made from its text."""

    def __init__(self, text):
        code = read_program(text) if isinstance(text, str) else None
        if code is None:
            raise InvalidText(text)
        self._text = text
        self._lines = tuple(text.split("\n"))
        self._read = code
        self._jumps = jumps_of(code)

    @property
    def text(self):
        """The text that it was made from."""
        return self._text

    @property
    def lines(self):
        """The row of the lines of the text."""
        return self._lines

    @property
    def places(self):
        """The rising row of all places."""
        return places_of(self._read)

    @property
    def arrays(self):
        """The rising row of the arrays."""
        return arrays_of(self._read)

    @property
    def words(self):
        """The rising row of the function words with their numbers of arguments."""
        return words_of(self._read)

    @property
    def outs(self):
        """The row of the places of the results."""
        last = self._read[-1]
        return last[1] if last[0] == "out" else ()

    @property
    def takes(self):
        """The row of the pairs of a place and the value that it holds at the beginning."""
        return tuple([line[1:] for line in self._read if line[0] == "take"])

    @property
    def code(self):
        """The lines as rows, for the other files of the package."""
        return self._read

    def run(self, count, world):
        """Return the outcome of the program, begun with this count, in a world."""
        check_count(count)
        check_world(world)
        gone, looks = walk(self._read, self._jumps, 0, count)
        machine = Machine(world, RUBBISH)
        machine.take(self.takes)
        machine.go(gone)
        results = tuple([machine.worth(place) for place in self.outs])
        return Outcome(machine, results, kinds_of(gone, looks))

    def without(self, index):
        """Return the program without a line."""
        self._check_index(index)
        return Program("\n".join(self._lines[:index] + self._lines[index + 1:]))

    def put(self, index, line):
        """Return the program with another line in the place of one."""
        self._check_index(index)
        if not isinstance(line, str) or "\n" in line:
            raise InvalidText(line)
        return Program("\n".join(self._lines[:index] + (line,) + self._lines[index + 1:]))

    def _check_index(self, index):
        if not is_integer_within(index, 0, len(self._lines) - 1):
            raise InvalidNumber(index)

    def __eq__(self, other):
        return isinstance(other, Program) and self._text == other._text

    def __str__(self):
        return str(self._text)

    def __repr__(self):
        return f"Program({len(self._lines)} lines)"
