"""Loops and programs run in the plainest way, without the package, for the tests to compare with."""


class Numbered:
    """A world in which the same writing has the same number, and every other one another number."""

    def __init__(self):
        self.table = {}

    def _number(self, writing):
        return self.table.setdefault(writing, len(self.table))

    def known(self, name):
        return self._number(name)

    def cell(self, array, index):
        return self._number((array, index))

    def work(self, word, arguments):
        return self._number((word, tuple(arguments)))


class End:
    """What a run ended with."""

    def __init__(self, world):
        self.world = world
        self.results = ()
        self.cells = {}
        self.loaded = set()
        self.kinds = [0, 0, 0, 0, 0, 0]

    def load(self, array, index):
        self.loaded.add((array, index))
        return self.content(array, index)

    def content(self, array, index):
        if (array, index) in self.cells:
            return self.cells[array, index]
        return self.world.cell(array, index)

    def touched(self):
        return self.loaded | set(self.cells)


def loop_end(text, count, world):
    """Point 8, word by word."""
    end = End(world)
    rows = [line.split() for line in text.split("\n")]
    steps = [row for row in rows if row[0] not in ("in", "out")]
    outs = rows[-1][1:] if rows[-1][0] == "out" else []
    inputs = rows[0][1:] if rows[0][0] == "in" else []
    told = {}

    def value(word, turn):
        if word in inputs:
            return world.known(word)
        name, _, back = word.partition("@")
        at = turn - int(back or 0)
        return world.known(f"{name}@{-at}") if at < 0 else told[name, at]

    for turn in range(count):
        for row in steps:
            if row[0] == "store":
                end.cells[row[1], turn + int(row[2])] = value(row[3], turn)
                end.kinds[2] += 1
            elif row[2] == "load":
                told[row[0], turn] = end.load(row[3], turn + int(row[4]))
                end.kinds[1] += 1
            else:
                told[row[0], turn] = world.work(row[2], tuple(value(word, turn) for word in row[3:]))
                end.kinds[0] += 1
    end.results = tuple(value(name, count - 1) for name in outs)
    return end


def block_behind(rows, at):
    """The index behind the end that belongs to a line, and that of its else."""
    depth = 0
    other = None
    while True:
        word = rows[at][0]
        if word in ("if", "while"):
            depth += 1
        elif word == "else" and depth == 1:
            other = at
        elif word == "end":
            depth -= 1
            if depth == 0:
                return at + 1, other
        at += 1


class ProgramRun:
    def __init__(self, text, count, world):
        self.rows = [line.split() for line in text.split("\n")]
        self.end = End(world)
        self.places = {}
        self.pointer = 0
        self.left = count
        self.go(0, len(self.rows))

    def value(self, place):
        return self.places[place] if place in self.places else self.end.world.known("?" + place)

    def looks(self, bound):
        self.end.kinds[5] += 1
        return self.left >= int(bound)

    def go(self, at, last):
        while at < last:
            row = self.rows[at]
            if row[0] == "if":
                behind, other = block_behind(self.rows, at)
                if self.looks(row[1]):
                    self.go(at + 1, other or behind - 1)
                elif other:
                    self.go(other + 1, behind - 1)
                at = behind
            elif row[0] == "while":
                behind, _ = block_behind(self.rows, at)
                while self.looks(row[1]):
                    self.go(at + 1, behind - 1)
                at = behind
            else:
                self.line(row)
                at += 1

    def line(self, row):
        end = self.end
        if row[0] == "take":
            self.places[row[1]] = end.world.known(row[2])
        elif row[0] == "out":
            end.results = tuple(self.value(place) for place in row[1:])
        elif row[0] == "step":
            self.pointer += int(row[1])
            self.left -= int(row[1])
            end.kinds[4] += 1
        elif row[0] == "store":
            end.cells[row[1], self.pointer + int(row[2])] = self.value(row[3])
            end.kinds[2] += 1
        elif len(row) == 3:
            self.places[row[0]] = self.value(row[2])
            end.kinds[3] += 1
        elif row[2] == "load":
            self.places[row[0]] = end.load(row[3], self.pointer + int(row[4]))
            end.kinds[1] += 1
        else:
            self.places[row[0]] = end.world.work(row[2], tuple(self.value(place) for place in row[3:]))
            end.kinds[0] += 1


def program_end(text, count, world):
    """Point 10, word by word."""
    return ProgramRun(text, count, world).end


def first_error(loop_text, program_text, count):
    """Point 11: the first place of error at a count, None if there is none."""
    world = Numbered()
    ours = loop_end(loop_text, count, world)
    theirs = program_end(program_text, count, world)
    for at, (left, right) in enumerate(zip(ours.results, theirs.results)):
        if left != right:
            return ("out", at)
    for array, index in sorted(set(ours.cells) | set(theirs.cells)):
        if ours.content(array, index) != theirs.content(array, index):
            return ("cell", array, index)
    return None


def shared(text, one, other, distance):
    """A loop or a program in which the array other lies over the array one, so that both share their cells.

    They are called by the first one of both names; offsets may come to be greater than a text's.
    """
    array, name, by = (other, one, distance) if one < other else (one, other, -distance)
    rows = [line.split() for line in text.split("\n")]
    for row in rows:
        if row[0] == "store" and row[1] == array:
            row[1:3] = [name, str(int(row[2]) + by)]
        elif len(row) == 5 and row[2] == "load" and row[3] == array:
            row[3:5] = [name, str(int(row[4]) + by)]
    return "\n".join(" ".join(row) for row in rows)


def first_wrong_run(loop_text, program_text, most=40):
    """The first count up to most, with the first place of error there, None if there is none."""
    for count in range(most + 1):
        where = first_error(loop_text, program_text, count)
        if where is not None:
            return (count, where)
    return None
