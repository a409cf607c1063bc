"""Pairs of nodes that lead to themselves again, one side of them faster than the other.

Such a pair cannot be alike for long: one side comes to its beginning, a writing of some height,
where the other one is still high.
"""

from overlapturns.graphs import added, is_round, knots_of, totals_from


class Drift:
    """A round of pairs, from home to home, which goes back further on one side.

    `lengths` is how far it goes back in the loop and in the program, and over how many pairs;
    `homeward` tells the same of a way from each pair to home.
    """

    def __init__(self, home, lengths, homeward):
        self.home = home
        self.lengths = lengths
        self.homeward = homeward


def pairs_below(loop_course, program_course, pair):
    """Return the pairs of nodes that must be alike if these two are, each with how far it lies back."""
    ours = loop_course.told[pair[0]]
    theirs = program_course.told[pair[1]]
    if ours[0] != theirs[0]:
        return []
    below = []
    for left, right in zip(ours[1], theirs[1]):
        if left[0] == "node" and right[0] == "node":
            below.append(((left[1], right[1]), (left[2], right[2], 1)))
    return below


def ways_from(loop_course, program_course, firsts):
    """Return the ways between all pairs that the first ones lead to."""
    ways = {}
    waiting = list(firsts)
    while waiting:
        pair = waiting.pop()
        if pair not in ways:
            ways[pair] = pairs_below(loop_course, program_course, pair)
            waiting.extend([way[0] for way in ways[pair]])
    return ways


def ways_within(ways, knot):
    """Return the ways between the pairs of a knot, and the same ways turned about."""
    within = {pair: [way for way in ways[pair] if way[0] in knot] for pair in knot}
    back = {pair: [] for pair in knot}
    for pair in knot:
        for other, numbers in within[pair]:
            back[other].append((pair, numbers))
    return (within, back)


def drift_of(ways, knot):
    """Return the drift of a knot, None if it has none."""
    within, back = ways_within(ways, {pair: True for pair in knot})
    home = knot[0]
    outward = totals_from(home, within)
    homeward = totals_from(home, back)
    for pair in knot:
        for other, numbers in within[pair]:
            lengths = added(added(outward[pair], numbers), homeward[other])
            if lengths[0] != lengths[1]:
                return Drift(home, lengths, homeward)
    return None


def drifts_from(loop_course, program_course, firsts):
    """Return the drift of each pair that the first ones lead to and that has one."""
    ways = ways_from(loop_course, program_course, firsts)
    graph = {pair: [way[0] for way in ways[pair]] for pair in ways}
    drifts = {}
    for knot in knots_of(graph):
        if is_round(graph, knot):
            drift = drift_of(ways, knot)
            if drift is not None:
                for pair in knot:
                    drifts[pair] = drift
    return drifts


def greatest_height(course, heights, node, goings):
    """Return the greatest height of what a node puts in so many goings from where its course is valid."""
    valid = course.valid()
    return max([heights[course.kept.put(node, going)] for going in range(valid, valid + goings)])


def goings_apart(heights, fast, slow):
    """Return from which going on a pair is unlike, with a fast side and a slow one.

    Each side is a row: its course, its node at home, how far the round goes back, over how many
    pairs, and how much earlier than the pair home is asked for.
    """
    course, node, quick, pairs, quick_back = fast
    rounds = greatest_height(course, heights, node, quick) // pairs + 1
    quick_valid = course.valid()
    slow_valid = slow[0].valid()
    tardy = slow[2]
    slow_back = slow[4]
    # Where the fast side is at its beginning, the slow one still has so many rounds to go.
    needed = quick * (slow_valid + tardy * rounds + slow_back) - tardy * (quick_back + quick_valid)
    return max(-(-needed // (quick - tardy)), quick_valid + quick_back, slow_valid + slow_back)


def start_of_drift(drift, key, loop_course, program_course, heights):
    """Return from which going on a pair with a drift is unlike.

    The key is ("both", node of the loop, node of the program, how much earlier the former is).
    """
    back = drift.homeward[(key[1], key[2])] or (0, 0, 0)
    far, near, pairs = drift.lengths
    ours = (loop_course, drift.home[0], far, pairs, key[3] + back[0])
    theirs = (program_course, drift.home[1], near, pairs, back[1])
    if far > near:
        return goings_apart(heights, ours, theirs)
    return goings_apart(heights, theirs, ours)
