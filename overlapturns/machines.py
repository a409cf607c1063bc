"""What stands in places and cells while statements are gone through."""


class Machine:
    """Places, cells and the pointer, in a world.

    What nothing was put into is known to the world by the mark and the name. A machine with
    another one under it begins with what that one has, and leaves it as it is.
    """

    def __init__(self, world, mark, under=None):
        self.world = world
        self.mark = mark
        self.under = under
        self.held = {}
        self.cells = {}
        self.looked = {}
        self.at = 0
        self.top = 0

    def branch(self):
        """Return a machine that begins with what this one has."""
        made = Machine(self.world, self.mark, self)
        made.held = dict(self.held)
        made.at = self.at
        made.top = self.top
        return made

    def take(self, takes):
        """Put known values into places."""
        for place, known in takes:
            self.held[place] = self.world.known(known)

    def worth(self, place):
        """Return the value that a place holds."""
        if place in self.held:
            return self.held[place]
        return self.world.known(f"{self.mark}{place}")

    def content(self, array, index):
        """Return what stands in a cell."""
        cell = (array, index)
        layer = self
        while layer is not None:
            if cell in layer.cells:
                return layer.cells[cell]
            layer = layer.under
        return self.world.cell(array, index)

    def go(self, statements):
        """Go through statements; return the list of the values that they put into places."""
        told = []
        for statement in statements:
            kind = statement[0]
            if kind == "step":
                self.at += statement[1]
            elif kind == "store":
                self._store(statement[1], self.at + statement[2], self.worth(statement[3]))
            else:
                value = self._told(statement)
                self.held[statement[1]] = value
                told.append(value)
        return told

    def _store(self, array, index, value):
        self.cells[(array, index)] = value
        self.top = max(self.top, index + 1)

    def _told(self, statement):
        if statement[0] == "copy":
            return self.worth(statement[2])
        if statement[0] == "load":
            index = self.at + statement[3]
            self.looked[(statement[2], index)] = True
            return self.content(statement[2], index)
        return self.world.work(statement[2], tuple([self.worth(place) for place in statement[3]]))
