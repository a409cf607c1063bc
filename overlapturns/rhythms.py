"""Sets of integers that come again with a period, kept as bits.

A rhythm is a row (start, period, bits) of a set of integers from 0 on: the bit k of bits tells
of k, for each k below start + period; from start on, k is in the set exactly if k + period is.
A cycle is a pair (period, bits) of a set of integers, also below 0, without a start.
"""

from math import gcd, lcm

ALL = (1, 1)
NONE = (1, 0)


def mask_of(length):
    """Return so many bits that are set."""
    return (1 << length) - 1


def members_of(bits):
    """Return the rising list of the bits that are set."""
    text = f"{bits:b}"
    return [at for at, sign in enumerate(text[::-1]) if sign == "1"]


def lowest_of(bits):
    """Return the least bit that is set, of some."""
    return (bits & -bits).bit_length() - 1


def primes_of(number):
    """Return the rising list of the primes that divide a number."""
    primes = []
    prime = 2
    while prime * prime <= number:
        if number % prime == 0:
            primes.append(prime)
        while number % prime == 0:
            number = number // prime
        prime += 1
    if number > 1:
        primes.append(number)
    return primes


def is_again_after(period, bits, shorter):
    """Tell whether a cycle comes again after a shorter period, which divides its own."""
    return (bits ^ (bits >> shorter)) & mask_of(period - shorter) == 0


def least_cycle(period, bits):
    """Return the same cycle with its least period."""
    for prime in primes_of(period):
        while period % prime == 0 and is_again_after(period, bits, period // prime):
            period = period // prime
            bits = bits & mask_of(period)
    return (period, bits)


def stretched(cycle, length):
    """Return the bits from 0 on, so many, of a cycle."""
    width, bits = cycle
    while width < length:
        bits = bits | (bits << width)
        width = width + width
    return bits & mask_of(length)


def joined_cycles(one, other):
    """Return the cycle of what is in one of both."""
    if one[1] == 0:
        return other
    if other[1] == 0:
        return one
    period = lcm(one[0], other[0])
    return least_cycle(period, stretched(one, period) | stretched(other, period))


def later_cycle(cycle, by):
    """Return the cycle of all integers that are greater by so much."""
    period, bits = cycle
    turn = by % period
    return (period, ((bits << turn) | (bits >> (period - turn))) & mask_of(period))


def kept_cycle(cycle, period, residue):
    """Return the cycle of what leaves this residue by the period."""
    longer = lcm(cycle[0], period)
    kept = stretched((period, 1 << residue), longer)
    return least_cycle(longer, stretched(cycle, longer) & kept)


def thinned_cycle(cycle, stride, first):
    """Return the cycle of the integers first + stride * k for each k of a cycle."""
    period, bits = cycle
    text = f"{bits:b}"
    gap = "0" * (stride - 1)
    thin = int("".join([f"{gap}{sign}" for sign in text]), 2)
    return later_cycle((period * stride, thin), first)


def residues_of(cycle, period):
    """Return the bits of the residues by a period that integers of a cycle leave."""
    shared = gcd(cycle[0], period)
    bits = cycle[1]
    folded = 0
    while bits:
        folded = folded | (bits & mask_of(shared))
        bits = bits >> shared
    return stretched((shared, folded), period)


def is_in_cycle(number, cycle):
    """Tell whether an integer is in a cycle."""
    return (cycle[1] >> (number % cycle[0])) & 1 == 1


def first_in_cycle(cycle, least):
    """Return the least integer of a cycle, from one on; the cycle has some."""
    period, bits = later_cycle(cycle, -least)
    return least + lowest_of(bits)


def least_rhythm(start, period, bits):
    """Return the rhythm of the same set with the least period and then the least start."""
    period, again = least_cycle(period, bits >> start)
    bits = (bits & mask_of(start)) | (again << start)
    unlike = (bits ^ (bits >> period)) & mask_of(start)
    start = unlike.bit_length()
    return (start, period, bits & mask_of(start + period))


def rhythm_from(bits, start, cycle):
    """Return the rhythm with these bits below the start, and with a cycle from there on."""
    again = later_cycle(cycle, -start)[1]
    return least_rhythm(start, cycle[0], (bits & mask_of(start)) | (again << start))


def spread(rhythm, length):
    """Return the bits of a rhythm below a length."""
    start, period, bits = rhythm
    again = stretched((period, bits >> start), max(length - start, 0))
    return ((bits & mask_of(start)) | (again << start)) & mask_of(length)


def common_lengths(one, other):
    """Return the start and the period with which both rhythms can be written."""
    return (max(one[0], other[0]), lcm(one[1], other[1]))


def joined(one, other):
    """Return the rhythm of what is in one of both."""
    start, period = common_lengths(one, other)
    length = start + period
    return least_rhythm(start, period, spread(one, length) | spread(other, length))


def shared_by(one, other):
    """Return the rhythm of what is in both."""
    start, period = common_lengths(one, other)
    length = start + period
    return least_rhythm(start, period, spread(one, length) & spread(other, length))


def taken_away(one, other):
    """Return the rhythm of what is in the first one and not in the other one."""
    start, period = common_lengths(one, other)
    length = start + period
    ours = spread(one, length)
    return least_rhythm(start, period, ours ^ (ours & spread(other, length)))


def is_in_rhythm(number, rhythm):
    """Tell whether an integer is in a rhythm."""
    start, period, bits = rhythm
    if number < 0:
        return False
    if number >= start:
        number = start + (number - start) % period
    return (bits >> number) & 1 == 1
