"""At which goings the pairs of a graph are unlike, from some going on."""

from math import gcd

from overlapturns.graphs import is_round, knots_of
from overlapturns.pairs import cycle_of
from overlapturns.rhythms import NONE, is_in_cycle, joined_cycles, later_cycle, residues_of


def links_within(pairs, knot):
    """Return for each pair of a knot its links to pairs of the knot, and those to others."""
    inner = {key: True for key in knot}
    within = {}
    without = {}
    for key in knot:
        links = pairs.graph[key][1]
        within[key] = [link for link in links if link[1] in inner]
        without[key] = [link for link in links if link[1] not in inner]
    return (within, without)


def laps_of(knot, within):
    """Return how much later each pair of a knot stands than the first one, and the period of the knot."""
    laps = {knot[0]: 0}
    period = 0
    waiting = [knot[0]]
    while waiting:
        key = waiting.pop()
        for by, other, _ in within[key]:
            if other not in laps:
                laps[other] = laps[key] + by
                waiting.append(other)
            period = gcd(period, laps[key] + by - laps[other])
    return (laps, period)


def knot_cycles(pairs, knot, cycles, window):
    """Return the cycles of the pairs of a knot, in which what is unlike once stays so every period.

    Whatever is unlike in the knot itself is so within a window of goings.
    """
    within, without = links_within(pairs, knot)
    laps, period = laps_of(knot, within)
    found = NONE
    for key in knot:
        own = cycle_of(pairs.graph[key][0], without[key], cycles)
        if own[1] != 0:
            found = joined_cycles(found, later_cycle((period, residues_of(own, period)), laps[key]))
        for going in window:
            if pairs.is_unlike_at(key, going):
                found = joined_cycles(found, (period, 1 << ((going + laps[key]) % period)))
    return {key: later_cycle(found, -laps[key]) for key in knot}


def all_cycles(pairs, window):
    """Return the cycle of each pair."""
    graph = {key: [link[1] for link in pairs.graph[key][1]] for key in pairs.graph}
    cycles = {}
    for knot in knots_of(graph):
        if is_round(graph, knot):
            found = knot_cycles(pairs, knot, cycles, window)
        else:
            own, links = pairs.graph[knot[0]]
            found = {knot[0]: cycle_of(own, links, cycles)}
        for key in knot:
            cycles[key] = found[key]
    return cycles


def are_cycles_kept(pairs, cycles, window):
    """Tell whether all pairs are unlike within a window just where their cycles say so."""
    for key in cycles:
        if pairs.is_kept(key):
            for going in window:
                if pairs.is_unlike_at(key, going) != is_in_cycle(going, cycles[key]):
                    return False
    return True
