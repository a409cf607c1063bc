import random
import unittest

from overlapturns import rhythms

FAR = 400


def some_cycle(rng):
    period = rng.randrange(1, 13)
    return period, rng.randrange(1 << period)


def worked_out(cycle):
    """The integers of a cycle from -FAR to FAR."""
    period, bits = cycle
    return {number for number in range(-FAR, FAR + 1) if bits >> (number % period) & 1}


def within(numbers):
    return {number for number in numbers if -FAR // 2 <= number <= FAR // 2}


class CyclesTest(unittest.TestCase):
    def same(self, cycle, numbers):
        self.assertEqual(within(worked_out(cycle)), within(numbers))

    def test_against_sets(self):
        rng = random.Random(3)
        for _ in range(300):
            one, other = some_cycle(rng), some_cycle(rng)
            ours, theirs = worked_out(one), worked_out(other)
            by = rng.randrange(-30, 31)
            period = rng.randrange(1, 13)
            residue = rng.randrange(period)
            with self.subTest(one=one, other=other, by=by, period=period, residue=residue):
                self.same(rhythms.least_cycle(*one), ours)
                self.same(rhythms.joined_cycles(one, other), ours | theirs)
                self.same(rhythms.later_cycle(one, by), {number + by for number in ours})
                self.same(rhythms.kept_cycle(one, period, residue), {number for number in ours if number % period == residue})
                thin = rhythms.thinned_cycle(one, period, by)
                self.same(thin, {number for number in range(-FAR, FAR) if (number - by) % period == 0 and (number - by) // period in ours})
                hit = {number % period for number in ours}
                self.same((period, rhythms.residues_of(one, period)), {number for number in range(-FAR, FAR) if number % period in hit})
                for number in (0, 1, -1, by, 10 ** 20 + by):
                    self.assertIs(rhythms.is_in_cycle(number, one), number % one[0] in {k % one[0] for k in ours})
                if ours:
                    self.assertEqual(rhythms.first_in_cycle(one, by), min(number for number in ours if number >= by))

    def test_least_period(self):
        self.assertEqual(rhythms.least_cycle(12, 0b010010010010), (3, 0b010))
        self.assertEqual(rhythms.least_cycle(12, 0b010010010011), (12, 0b010010010011))
        self.assertEqual(rhythms.least_cycle(7, 0), (1, 0))
        self.assertEqual(rhythms.least_cycle(360, (1 << 360) - 1), (1, 1))

    def test_rhythm_of_bits_and_a_cycle(self):
        rng = random.Random(4)
        for _ in range(200):
            start, cycle = rng.randrange(12), some_cycle(rng)
            bits = rng.randrange(1 << 14)
            told = rhythms.rhythm_from(bits, start, cycle)
            expected = {k for k in range(200) if (bits >> k & 1 if k < start else rhythms.is_in_cycle(k, cycle))}
            self.assertEqual({k for k in range(-9, 200) if rhythms.is_in_rhythm(k, told)}, expected)
            self.assertEqual(rhythms.members_of(rhythms.spread(told, 150)), sorted(k for k in expected if k < 150))
            self.assertEqual(rhythms.least_rhythm(*told), told)


if __name__ == "__main__":
    unittest.main()
