"""Worlds: what functions do, and what is in names and cells at first."""

from overlapturns.errors import InvalidNumber
from overlapturns.kinds import is_integer_within

LEAST_MODULUS = 2
MOST_MODULUS = 1000000000
LEAST_SEED = 0
MOST_SEED = 1000000000


def cell_text(array, index):
    """Return the string of a cell's first content."""
    return f"{array}[{index}]"


class Texts:
    """The world in which all values are strings: each is its own writing."""

    def known(self, name):
        """Return the value of an input, a first value or a rubbish."""
        return name

    def cell(self, array, index):
        """Return the first content of a cell."""
        return cell_text(array, index)

    def work(self, word, arguments):
        """Return what the function tells for a row of values."""
        told = ", ".join(arguments)
        return f"{word}({told})"

    def __eq__(self, other):
        if not isinstance(other, Texts):
            return False
        return True

    def __repr__(self):
        return "Texts()"


class Numbers:
    """A world in which all values are integers from 0 to modulus - 1."""

    def __init__(self, modulus, seed):
        if not is_integer_within(modulus, LEAST_MODULUS, MOST_MODULUS):
            raise InvalidNumber(modulus)
        if not is_integer_within(seed, LEAST_SEED, MOST_SEED):
            raise InvalidNumber(seed)
        self._modulus = modulus
        self._seed = seed

    @property
    def modulus(self):
        """The number by which all remainders are taken."""
        return self._modulus

    @property
    def seed(self):
        """The number that tells the worlds of one modulus apart."""
        return self._seed

    def known(self, name):
        """Return the value of an input, a first value or a rubbish."""
        return self._code(name)

    def cell(self, array, index):
        """Return the first content of a cell."""
        return self._code(cell_text(array, index))

    def work(self, word, arguments):
        """Return what the function tells for a row of values."""
        number = self._code(word)
        for argument in arguments:
            mixed = number * (self._seed + 7) + argument * (number + 13)
            number = (mixed + argument * argument + 29) % self._modulus
        return number

    def _code(self, text):
        number = self._seed + 1
        for character in text:
            number = (number * 131 + ord(character)) % self._modulus
        return number

    def __eq__(self, other):
        return isinstance(other, Numbers) and self._modulus == other._modulus and self._seed == other._seed

    def __repr__(self):
        return f"Numbers({self._modulus}, {self._seed})"
