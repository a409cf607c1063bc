"""What is put and stored in each going of statements that are gone through again and again.

A form tells a value as it is seen at a going m. It is one of
("node", k, d): what the node k put d goings before;
("cell", A, o): the first content of the cell A[a + s * m + o], with the anchor a and the stride s;
("fixed", number): the writing with this number;
("ring", k, n, d): like a node, one that only hands on what it put itself n goings before.
"""

from overlapturns.statements import is_putting


def shifted(form, by, stride):
    """Return the form for a value that is seen so many goings later."""
    kind = form[0]
    if kind == "node":
        return ("node", form[1], form[2] + by)
    if kind == "cell":
        return ("cell", form[1], form[2] - stride * by)
    if kind == "ring":
        return ("ring", form[1], form[2], form[3] + by)
    return form


def last_puts(statements):
    """Return for each place the number of the last node that puts into it."""
    putting = [statement for statement in statements if is_putting(statement)]
    return {statement[1]: at for at, statement in enumerate(putting)}


def least_period_of(row):
    """Return the least number of values with which a list of them comes again and again."""
    many = len(row)
    return min([width for width in range(1, many + 1) if row[:width] * (many // width) == row])


class Course:
    """The nodes of a body, one for each value that it puts, and of what may come behind it.

    Each node has a definition, by forms seen at the same going: ("work", word, forms), or
    ("same", form). It holds at all goings from `base` on; `arguments_of` those from `valid` on,
    which look through all nodes that hand on a value. `kept` tells what was put in fact.
    """

    def __init__(self, body, stride, kept, top):
        self.stride = stride
        self.kept = kept
        self.top = top
        self.definitions = []
        self.last = last_puts(body)
        self.final = {}
        self.far = 1
        self.below = 0
        self.deep = 0
        self.longest = 0
        self.told = {}
        self.tables = {}
        # Whatever loads find, the forms of what is stored are the same.
        self.final = self.unfold(body)[1]
        self.definitions = []
        self.unfold(body)
        self.size = len(self.definitions)

    def unfold(self, statements):
        """Add the nodes of statements behind goings of the body; return their places and stores."""
        puts = {}
        stored = {}
        pointer = 0
        for statement in statements:
            kind = statement[0]
            if kind == "step":
                pointer += statement[1]
            elif kind == "store":
                stored[(statement[1], pointer + statement[2])] = self.place_form(puts, statement[3])
            else:
                self.definitions.append(self._defined(statement, puts, stored, pointer))
                puts[statement[1]] = ("node", len(self.definitions) - 1, 0)
        return (puts, stored)

    def place_form(self, puts, place):
        """Return the form of what a place holds behind the puts."""
        if place in puts:
            return puts[place]
        if place in self.last:
            return ("node", self.last[place], 1)
        return ("fixed", self.kept.fixed(place))

    def cell_form(self, stored, array, offset):
        """Return the form of what stands in a cell behind what was stored."""
        if (array, offset) in stored:
            return stored[(array, offset)]
        high = max([cell[1] for cell in self.final] + [offset])
        for by in range(1, (high - offset) // self.stride + 1):
            cell = (array, offset + by * self.stride)
            if cell in self.final:
                self.far = max(self.far, by + 1)
                return shifted(self.final[cell], by, self.stride)
        self.below = min(self.below, offset)
        return ("cell", array, offset)

    def _defined(self, statement, puts, stored, pointer):
        if statement[0] == "work":
            forms = [self.place_form(puts, place) for place in statement[3]]
            return ("work", statement[2], forms)
        if statement[0] == "copy":
            return ("same", self.place_form(puts, statement[2]))
        return ("same", self.cell_form(stored, statement[2], pointer + statement[3]))

    def chased(self, form):
        """Return a form of the same value that is no node which hands on another one."""
        met = {}
        while form[0] == "node":
            node, delay = form[1:]
            self.deep = max(self.deep, delay)
            definition = self.definitions[node]
            if definition[0] == "work":
                return form
            if node in met:
                self.longest = max(self.longest, delay - met[node])
                return ("ring", node, delay - met[node], met[node])
            met[node] = delay
            form = shifted(definition[1], delay, self.stride)
        return form

    def settle(self):
        """Chase all arguments, when the last statements are unfolded."""
        for node, definition in enumerate(self.definitions):
            if definition[0] == "work":
                self.told[node] = (definition[1], [self.chased(form) for form in definition[2]])

    def base(self):
        """Return from which going on the definitions hold."""
        return max(self.far, -((self.below - self.top) // self.stride))

    def valid(self):
        """Return from which going on the chased arguments hold."""
        return self.base() + self.deep

    def table(self, form):
        """Return the list of the values of a ring, by the going, which come again and again."""
        if form not in self.tables:
            node, length, delay = form[1:]
            base = self.base()
            goings = [base + (going - delay - base) % length for going in range(length)]
            row = [self.kept.put(node, going) for going in goings]
            self.tables[form] = row[:least_period_of(row)]
        return self.tables[form]
