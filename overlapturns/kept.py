"""What was put in fact, as courses ask for it."""


class Kept:
    """The rows of what a machine put in each of its rounds, so many of which make one going."""

    def __init__(self, machine, rows, first, many):
        self.machine = machine
        self.rows = rows
        self.first_round = first
        self.many = many

    def fixed(self, place):
        """Return what a place holds that the rounds put nothing into."""
        return self.machine.worth(place)

    def put(self, node, going):
        """Return what a node put in a going."""
        at = self.first_round + self.many * going
        width = len(self.rows[at])
        return self.rows[at + node // width][node % width]

    def length(self):
        """Return how many goings are kept."""
        return (len(self.rows) - self.first_round) // self.many
