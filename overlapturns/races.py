"""A loop and a program, done at one count after the other, and compared at each."""

from overlapturns.machines import Machine
from overlapturns.plans import plan_of
from overlapturns.programs import RUBBISH
from overlapturns.statements import arrays_of
from overlapturns.walks import jumps_of, walk
from overlapturns.writings import Writings


def lowest_store(statements):
    """Return the least offset of a store, 0 if there is none below."""
    return min([statement[2] for statement in statements if statement[0] == "store"] + [0])


class Race:
    """A loop and a program, done at the counts 0, 1, 2, .. in their order.

    What the loop put into places is kept for each turn, and what the body of the plan put for
    each of its goings.
    """

    def __init__(self, sides):
        self.one_turn = sides.one_turn
        self.loop_ends = sides.loop_ends
        self.read_code = sides.read_code
        self.program_takes = sides.program_takes
        self.program_ends = sides.program_ends
        self.jumps = jumps_of(self.read_code)
        self.plan = plan_of(self.read_code, self.jumps)
        self.letters = arrays_of(self.one_turn + self.read_code)
        self.low = lowest_store(self.one_turn + self.read_code)
        self.writings = Writings()
        self.turned = Machine(self.writings, "")
        self.gone = self._begun()
        self.gone.go(self.plan.head)
        self.turn_rows = []
        self.going_rows = []
        self.tails = {}
        self.number = 0
        self.settled = self.low
        self.spoiled = False
        self.wrongs = 0

    def tail(self, left):
        """Return the statements behind the goings of the plan's body, where left is so much."""
        if left not in self.tails:
            self.tails[left] = walk(self.read_code, self.jumps, self.plan.after, left)[0]
        return self.tails[left]

    def judge_next(self):
        """Tell whether the program is wrong at the next count, and go on behind it."""
        wrong = self._is_wrong_late() if self.number >= self.plan.regular else self._is_wrong_early()
        if wrong:
            self.wrongs = self.wrongs | (1 << self.number)
        self.turn_rows.append(self.turned.go(self.one_turn))
        self.number += 1
        return wrong

    def _begun(self):
        machine = Machine(self.writings, RUBBISH)
        machine.take(self.program_takes)
        return machine

    def _are_results_unlike(self, machine):
        ours = [self.turned.worth(place) for place in self.loop_ends]
        return ours != [machine.worth(place) for place in self.program_ends]

    def _are_cells_unlike(self, machine, low, high):
        for array in self.letters:
            for index in range(low, high):
                if self.turned.content(array, index) != machine.content(array, index):
                    return True
        return False

    def _is_wrong_early(self):
        machine = self._begun()
        machine.go(walk(self.read_code, self.jumps, 0, self.number)[0])
        if self._are_results_unlike(machine):
            return True
        return self._are_cells_unlike(machine, self.low, max(self.turned.top, machine.top))

    def _is_wrong_late(self):
        goings = self.plan.goings_at(self.number)
        while len(self.going_rows) < goings:
            self.going_rows.append(self.gone.go(self.plan.body))
        pointer = self.plan.anchor + self.plan.stride * goings
        self._settle(min(self.number, pointer) + self.low)
        if self.spoiled:
            return True
        machine = self.gone.branch()
        machine.go(self.tail(self.number - pointer))
        if self._are_results_unlike(machine):
            return True
        return self._are_cells_unlike(machine, self.settled, max(self.turned.top, machine.top))

    def _settle(self, below):
        """Compare the cells that nobody stores into any more, at no greater count either."""
        if not self.spoiled and self.settled < below:
            self.spoiled = self._are_cells_unlike(self.gone, self.settled, below)
            self.settled = below
