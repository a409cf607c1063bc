"""Consoles, which answer lines about a program for a loop, and change it line by line."""

from overlapturns.answers import answer_to
from overlapturns.errors import InvalidText
from overlapturns.fitting import check_pair, is_fit, shortened
from overlapturns.words import is_number, number_within


def words_of_line(line):
    """Return the words of a line with single spaces between them, None if it is no such line."""
    if not isinstance(line, str) or "\n" in line:
        return None
    words = line.split(" ")
    return None if "" in words else words


def changed(program, index, line):
    """Return the program with another line in the place of one, None if that is none."""
    try:
        return program.put(index, line)
    except InvalidText:
        return None


class Console:
    """Answers lines about a loop and a program for it, which some of the lines change."""

    def __init__(self, loop, program):
        check_pair(loop, program)
        self._loop = loop
        self._program = program
        self._earlier = []

    def say(self, line):
        """Return the answer to a line."""
        words = words_of_line(line)
        answer = None
        if words is not None and words[0] in ("put", "drop", "undo"):
            answer = self._answer_change(words)
        elif words is not None:
            answer = answer_to(self._loop, self._program, words)
        if answer is None:
            raise InvalidText(line)
        return answer

    def _answer_change(self, words):
        """Change the program; return the answer, None if the words are those of no line."""
        if words[0] == "undo":
            return self._answer_undo() if len(words) == 1 else None
        if len(words) < 2 or not is_number(words[1]) or (words[0] == "put") != (len(words) > 2):
            return None
        # Whatever is greater than that is the index of no line.
        index = number_within(words[1], 0, len(self._program.lines) - 1)
        if index is None:
            return "no"
        if words[0] == "put":
            return self._answer_new(changed(self._program, index, " ".join(words[2:])))
        return self._answer_new(shortened(self._program, index))

    def _answer_new(self, program):
        if program is None or not is_fit(self._loop, program):
            return "no"
        self._earlier.append(self._program)
        self._program = program
        return "ok"

    def _answer_undo(self):
        if not self._earlier:
            return "nothing"
        self._program = self._earlier.pop()
        return "ok"
