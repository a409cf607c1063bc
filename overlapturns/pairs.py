"""Which values of a loop and a program are unlike, told from one going to the next.

A key is a pair of values, seen at a going m: ("both", u, v, e), the node u of the loop at the
going m - e and the node v of the program at m; or ("loop", u, number, 0) and ("program", v,
number, 0), a node at m and a writing. A pair is unlike at a cycle of goings of its own, and
wherever one of those is that it is linked to. A link is a row (by, key, kept): the key's goings,
later by so many, of which those are kept that leave a residue, if `kept` is (period, residue).
"""

from math import lcm

from overlapturns.courses import shifted
from overlapturns.drifts import drifts_from, start_of_drift
from overlapturns.rhythms import ALL, NONE, joined_cycles, kept_cycle, later_cycle, least_cycle


def cycle_of(own, links, cycles):
    """Return at which goings something is unlike, by its own cycle and its links to known ones."""
    found = own
    for by, key, kept in links:
        cycle = later_cycle(cycles[key], by)
        if kept is not None:
            cycle = kept_cycle(cycle, kept[0], kept[1])
        found = joined_cycles(found, cycle)
    return found


class Pairs:
    """The pairs that are met from some pairs of forms on, by their keys."""

    def __init__(self, loop_course, program_course, writings, anchor):
        self.loop_course = loop_course
        self.program_course = program_course
        self.parts = writings.parts
        self.heights = writings.heights
        self.anchor = anchor
        self.drifts = {}
        self.graph = {}
        # From which going on all is told rightly.
        self.least = 0

    def explore(self, forms):
        """Find all pairs that pairs of forms are linked to."""
        firsts = [(left[1], right[1]) for left, right in forms if left[0] == "node" and right[0] == "node"]
        self.drifts = drifts_from(self.loop_course, self.program_course, firsts)
        waiting = []
        for left, right in forms:
            waiting.extend([link[1] for link in self.unlike(left, right)[1]])
        while waiting:
            key = waiting.pop()
            if key not in self.graph:
                self.graph[key] = self._expanded(key)
                waiting.extend([link[1] for link in self.graph[key][1]])

    def all_links(self, forms):
        """Return the links of all pairs, and those of pairs of forms."""
        links = []
        for key in self.graph:
            links.extend(self.graph[key][1])
        for left, right in forms:
            links.extend(self.unlike(left, right)[1])
        return links

    def joined_cycle(self, forms, cycles):
        """Return at which goings some of the pairs of forms are unlike, by the cycles of the keys."""
        found = NONE
        for left, right in forms:
            own, links = self.unlike(left, right)
            found = joined_cycles(found, cycle_of(own, links, cycles))
        return found

    def valid(self, key):
        """Return from which going on what is told of a pair holds."""
        if key[0] == "both":
            return max(self.loop_course.valid() + key[3], self.program_course.valid())
        return self._course_of(key).valid()

    def is_unlike_at(self, key, going):
        """Tell whether a pair is unlike at a going, by what was put in fact."""
        if key[0] == "both":
            ours = self.loop_course.kept.put(key[1], going - key[3])
            return ours != self.program_course.kept.put(key[2], going)
        return self._course_of(key).kept.put(key[1], going) != key[2]

    def is_kept(self, key):
        """Tell whether it is kept what the nodes of a pair put in fact."""
        if key[0] == "both":
            return key[1] < self.loop_course.size and key[2] < self.program_course.size
        return key[1] < self._course_of(key).size

    def _course_of(self, key):
        """Return the course of the one node of a pair."""
        return self.loop_course if key[0] == "loop" else self.program_course

    def unlike(self, left, right):
        """Return at which goings two forms are unlike: a cycle, and a list of links."""
        kinds = (left[0], right[0])
        if "ring" in kinds:
            return self._unlike_ring(left, right)
        if "node" not in kinds:
            return (self._unlike_leaves(left, right), [])
        if left[0] == right[0]:
            return (NONE, [(right[2], ("both", left[1], right[1], left[2] - right[2]), None)])
        if left[0] == "node":
            return self._unlike_writing("loop", left, right)
        return self._unlike_writing("program", right, left)

    def _unlike_writing(self, side, form, other):
        if other[0] == "cell":
            return (ALL, [])
        return (NONE, [(form[2], (side, form[1], other[1], 0), None)])

    def _unlike_leaves(self, left, right):
        if left == right:
            return NONE
        if left[0] == "cell":
            self._note_meeting(left, right)
        if right[0] == "cell":
            self._note_meeting(right, left)
        return ALL

    def _note_meeting(self, cell, other):
        """See that nothing is told at the one going at which the cell may be the other form's."""
        if other[0] == "fixed":
            parts = self.parts[other[1]]
            if parts[0] == "cell" and parts[1] == cell[1]:
                going = (parts[2] - self.anchor - cell[2]) // self.loop_course.stride
                self.least = max(self.least, going + 1)

    def _forms_of(self, form, course):
        """Return the forms that come again and again in the place of a ring; others stand alone."""
        if form[0] != "ring":
            return [form]
        return [("fixed", number) for number in course.table(form)]

    def _unlike_ring(self, left, right):
        ours = self._forms_of(left, self.loop_course)
        theirs = self._forms_of(right, self.program_course)
        period = lcm(len(ours), len(theirs))
        bits = 0
        links = []
        for residue in range(period):
            own, below = self.unlike(ours[residue % len(ours)], theirs[residue % len(theirs)])
            bits = bits | (own[1] << residue)
            links.extend([(link[0], link[1], (period, residue)) for link in below])
        return (least_cycle(period, bits), links)

    def _expanded(self, key):
        """Return the own cycle and the links of a pair."""
        forms = self._forms_below(key)
        if forms is None:
            return (ALL, [])
        own = NONE
        links = []
        for left, right in forms:
            cycle, below = self.unlike(left, right)
            own = joined_cycles(own, cycle)
            links.extend(below)
        if own == ALL:
            return (ALL, [])
        if key[0] == "both" and (key[1], key[2]) in self.drifts:
            self._note_drift(key)
            return (ALL, [])
        return (own, links)

    def _note_drift(self, key):
        drift = self.drifts[(key[1], key[2])]
        ours, theirs = self.loop_course, self.program_course
        enough = max(ours.valid() + drift.lengths[0], theirs.valid() + drift.lengths[1])
        self.least = max(self.least, enough)
        if enough <= min(ours.kept.length(), theirs.kept.length()):
            self.least = max(self.least, start_of_drift(drift, key, ours, theirs, self.heights))

    def _forms_below(self, key):
        """Return the pairs of forms of the arguments, None if the function words are not the same."""
        stride = self.loop_course.stride
        if key[0] == "both":
            word, ours = self.loop_course.told[key[1]]
            other, theirs = self.program_course.told[key[2]]
            pairs = [(shifted(left, key[3], stride), right) for left, right in zip(ours, theirs)]
            return pairs if word == other else None
        parts = self.parts[key[2]]
        word, forms = self._course_of(key).told[key[1]]
        if parts[0] != "work" or parts[1] != word:
            return None
        fixed = [("fixed", number) for number in parts[2]]
        return list(zip(forms, fixed)) if key[0] == "loop" else list(zip(fixed, forms))
