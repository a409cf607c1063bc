"""What a program does at all counts that are great enough."""

from overlapturns.statements import KINDS


class Plan:
    """The parts of a program as it goes at each count from `regular` on.

    It goes through the statements of the head, which bring the pointer to the anchor; then, as
    long as left is at least the bound, again and again through the body, which has steps of
    the stride together; then through what comes behind the line with the index `after`, of
    which left alone tells how it goes.
    """

    def __init__(self, head, anchor, regular):
        self.head = head
        self.anchor = anchor
        self.regular = regular
        self.bound = 1
        self.stride = 1
        self.body = ()
        self.after = 0

    def goings_at(self, count):
        """Return how often the body is gone through at a count from `regular` on."""
        return (count - self.anchor - self.bound) // self.stride + 1

    def first_count_with(self, goings):
        """Return the first count at which the body is gone through so often, at least once."""
        return self.anchor + self.stride * (goings - 1) + self.bound

    def leftovers(self):
        """Return the row of what left may be behind the goings."""
        return tuple(range(self.bound - self.stride, self.bound))


def steps_of(statements):
    """Return how far the pointer goes with the statements."""
    return sum([statement[1] for statement in statements if statement[0] == "step"])


def plan_of(code, jumps):
    """Return the plan of a program: its first `while` at great counts is the one of the plan.

    A program that comes to none gets one that does nothing, behind its last line.
    """
    at = 0
    pointer = 0
    enough = 0
    head = []
    while at < len(code) and code[at][0] != "while":
        line = code[at]
        if line[0] == "if":
            enough = max(enough, pointer + line[1])
        if line[0] in KINDS:
            head.append(line)
        if line[0] == "step":
            pointer += line[1]
        at = jumps[at] if line[0] == "else" else at + 1
    if at == len(code):
        anchor = max(pointer, enough)
        plan = Plan(tuple(head), anchor, anchor + 1)
        plan.after = at
        return plan
    bound = code[at][1]
    plan = Plan(tuple(head), pointer, max(enough, pointer + bound))
    plan.bound = bound
    plan.after = jumps[at]
    plan.body = code[at + 1:plan.after - 1]
    plan.stride = steps_of(plan.body)
    return plan
