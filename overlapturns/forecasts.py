"""At which counts a program is wrong, from some count on, as its body goes on and on."""

from overlapturns.courses import Course, shifted
from overlapturns.cycles import all_cycles, are_cycles_kept
from overlapturns.kept import Kept
from overlapturns.pairs import Pairs
from overlapturns.rhythms import ALL, NONE, first_in_cycle, joined_cycles, rhythm_from, stretched, thinned_cycle


def top_of(statements, first):
    """Return one more than the greatest index of a cell that is stored into, 0 if there is none above."""
    pointer = first
    top = 0
    for statement in statements:
        if statement[0] == "step":
            pointer += statement[1]
        elif statement[0] == "store":
            top = max(top, pointer + statement[2] + 1)
    return top


class Forecast:
    """What is compared behind so many goings: forms of the loop and of the program.

    At the going m are seen, beside the results and cells for each number that left may be, the
    `inner` cells: those into which nobody stores from then on, and which were not yet among them
    one going before. `inner_cycle` and `final_cycles` tell where they are unlike, when `missing`
    has told that nothing is missing.
    """

    def __init__(self, race):
        plan = race.plan
        self.race = race
        self.plan = plan
        turns = Kept(race.turned, race.turn_rows, plan.anchor, plan.stride)
        goings = Kept(race.gone, race.going_rows, 0, 1)
        top = top_of(race.one_turn, plan.anchor - 1) if plan.anchor > 0 else 0
        self.loop_course = Course(race.one_turn * plan.stride, plan.stride, turns, top - plan.anchor)
        top = top_of(plan.head, 0)
        self.program_course = Course(plan.body, plan.stride, goings, top - plan.anchor)
        self.low = race.low + min(0, plan.bound - plan.stride)
        self.inner = []
        self.final = {}
        for left in plan.leftovers():
            self.final[left] = self._compared(left)
        self.loop_course.settle()
        self.program_course.settle()
        self.inner_cycle = NONE
        self.final_cycles = {}

    def enough(self):
        """Return how many goings are needed at least."""
        ours, theirs = self.loop_course, self.program_course
        return max(ours.valid() + 1 + ours.longest, theirs.valid() + theirs.longest) + 2

    def missing(self, goings):
        """Return 0 if all is told from so many goings on, otherwise how many may be enough."""
        pairs = Pairs(self.loop_course, self.program_course, self.race.writings, self.plan.anchor)
        roots = list(self.inner)
        for left in self.final:
            roots.extend(self.final[left])
        pairs.explore(roots)
        width = max([link[0] for link in pairs.all_links(roots)] + [1])
        ahead = [key[3] for key in pairs.graph] + [0]
        end = min(self.program_course.kept.length(), self.loop_course.kept.length() + min(ahead))
        needed = max([pairs.valid(key) for key in pairs.graph] + [pairs.least, width + max(ahead)])
        if end < needed:
            return goings + needed - end
        window = list(range(end - width, end))
        cycles = all_cycles(pairs, window)
        if not are_cycles_kept(pairs, cycles, window):
            return goings + goings
        self.inner_cycle = pairs.joined_cycle(self.inner, cycles)
        self.final_cycles = {left: pairs.joined_cycle(self.final[left], cycles) for left in self.final}
        return 0

    def late_rhythm(self, goings):
        """Return at which counts the program is wrong, when nothing is missing from so many goings on."""
        plan = self.plan
        cycle = NONE
        for left in self.final_cycles:
            cycle = joined_cycles(cycle, thinned_cycle(self.final_cycles[left], plan.stride, plan.anchor + left))
        number = self.race.number
        if self.inner_cycle == NONE:
            return rhythm_from(self.race.wrongs, number, cycle)
        start = plan.first_count_with(first_in_cycle(self.inner_cycle, goings))
        later = (stretched(cycle, start) >> number) << number
        return rhythm_from(self.race.wrongs | later, start, ALL)

    def _compared(self, left):
        """Return the pairs of forms that are compared where left is so much behind the goings."""
        ahead, turns = divmod(left, self.plan.stride)
        ours = self.loop_course.unfold(self.race.one_turn * turns)
        theirs = self.program_course.unfold(self.race.tail(left))
        forms = []
        for ending, place in zip(self.race.loop_ends, self.race.program_ends):
            form = self.loop_course.place_form(ours[0], ending)
            forms.append(self._pair(form, self.program_course.place_form(theirs[0], place), ahead))
        high = self._high(ours[1], theirs[1], ahead)
        forms.extend(self._cell_pairs(self.low, high, ours[1], theirs[1], ahead))
        if left == self.plan.bound - self.plan.stride:
            self.inner.extend(self._cell_pairs(self.low - self.plan.stride, self.low, ours[1], theirs[1], ahead))
        return forms

    def _high(self, ours, theirs, ahead):
        """Return one more than the greatest offset of a cell that is stored into."""
        far = self.plan.stride * ahead
        loop_cells = list(ours) + list(self.loop_course.final)
        program_cells = list(theirs) + list(self.program_course.final)
        offsets = [cell[1] + far for cell in loop_cells] + [cell[1] for cell in program_cells]
        return max(offsets + [self.low]) + 1

    def _cell_pairs(self, low, high, ours, theirs, ahead):
        """Return the pairs of the forms of cells that may be unlike, of those with such offsets."""
        forms = []
        far = self.plan.stride * ahead
        for array in self.race.letters:
            for offset in range(low, high):
                form = self.loop_course.cell_form(ours, array, offset - far)
                other = self.program_course.cell_form(theirs, array, offset)
                pair = self._pair(form, other, ahead)
                if pair[0] != pair[1] or pair[0][0] != "cell":
                    forms.append(pair)
        return forms

    def _pair(self, form, other, ahead):
        """Return both forms chased, as they are seen at the going; the loop's was seen later."""
        ours = shifted(self.loop_course.chased(form), -ahead, self.plan.stride)
        return (ours, self.program_course.chased(other))
