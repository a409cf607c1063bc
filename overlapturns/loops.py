"""Loops."""

from overlapturns.asking import check_count, check_world
from overlapturns.errors import InvalidText
from overlapturns.looptexts import read_loop, turn_of
from overlapturns.machines import Machine
from overlapturns.outcomes import Outcome
from overlapturns.statements import arrays_of, kinds_of, puts_of, words_of
from overlapturns.words import earlier_text


class Loop:
    """A loop, made from its text."""

    def __init__(self, text):
        parts = read_loop(text) if isinstance(text, str) else None
        if parts is None:
            raise InvalidText(text)
        self._text = text
        self._lines = tuple(text.split("\n"))
        self._inputs, self._rows, self._outs = parts
        self._turn = turn_of(self._rows, self._outs)

    @property
    def text(self):
        """The text that it was made from."""
        return self._text

    @property
    def lines(self):
        """The row of the lines of the text."""
        return self._lines

    @property
    def inputs(self):
        """The row of the inputs."""
        return self._inputs

    @property
    def names(self):
        """The row of the names on the left of steps."""
        return puts_of(self._rows)

    @property
    def outs(self):
        """The row of the names whose last values are the results."""
        return self._outs

    @property
    def arrays(self):
        """The rising row of the arrays."""
        return arrays_of(self._rows)

    @property
    def words(self):
        """The rising row of the function words with their numbers of arguments."""
        return words_of(self._rows)

    @property
    def turn(self):
        """The statements of one turn, for the other files of the package."""
        return self._turn

    @property
    def ends(self):
        """The places in which the results stand behind a turn, for the other files of the package."""
        return tuple([earlier_text(name, 1) for name in self._outs])

    def run(self, count, world):
        """Return the outcome of so many turns in a world."""
        check_count(count)
        check_world(world)
        machine = Machine(world, "")
        for _ in range(count):
            machine.go(self._turn)
        results = tuple([machine.worth(place) for place in self.ends])
        kinds = tuple([count * many for many in kinds_of(self._rows, 0)])
        return Outcome(machine, results, kinds)

    def __eq__(self, other):
        return isinstance(other, Loop) and self._text == other._text

    def __str__(self):
        return str(self._text)

    def __repr__(self):
        return f"Loop({len(self._rows)} steps)"
