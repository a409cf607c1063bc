import random
import unittest

from overlapturns.counts import Counts
from overlapturns.errors import InvalidNumber, NotACounts
from overlapturns.samples import sample_loop
from overlapturns.worlds import Texts

FAR = 700


def worked_out(single, again, period):
    """All members below FAR."""
    return {k for k in range(FAR) if k in single or any(k >= least and (k - least) % period == 0 for least in again)}


def least_form(members, most_period=260):
    """The least start with the least period, searched for among all of them."""
    for period in range(1, most_period + 1):
        broken = [k for k in range(FAR - period) if (k in members) != (k + period in members)]
        start = broken[-1] + 1 if broken else 0
        if start < FAR // 3:
            return start, period
    raise AssertionError("no period found")


def some_arguments(rng, most=20, most_period=8):
    single = tuple(rng.randrange(most) for _ in range(rng.randrange(5)))
    again = tuple(rng.randrange(most) for _ in range(rng.randrange(4)))
    return single, again, rng.randrange(1, most_period + 1)


class CheckedCase(unittest.TestCase):
    def check(self, counts, members):
        start, period = least_form(members)
        self.assertIsInstance(counts, Counts)
        self.assertEqual([k for k in range(FAR) if k in counts], sorted(members))
        self.assertEqual((counts.start, counts.period), (start, period))
        low = tuple(sorted(k for k in members if k < start + period))
        self.assertEqual(counts.members, low)
        self.assertEqual(counts.first, low[0] if low else None)
        endless = any(k >= start for k in members)
        self.assertIs(counts.endless, endless)
        text = " ".join(str(k) for k in low) if low else "none"
        if endless:
            text += f" .. from {start} by {period}"
        self.assertEqual((str(counts), repr(counts)), (text, f"Counts({text})"))


class CountsTest(CheckedCase):
    def test_texts(self):
        told = (
            (Counts(), "none"), (Counts((5,)), "5"), (Counts((3, 0), (4,), 2), "0 3 4 .. from 4 by 2"),
            (Counts(again=(0,)), "0 .. from 0 by 1"), (Counts((0, 1, 2), (3,)), "0 .. from 0 by 1"),
            (Counts((1, 3, 5), (7,), 2), "1 .. from 0 by 2"), (Counts((), (2, 4), 4), "2 .. from 1 by 2"),
            (Counts((), (0, 1, 2), 3), "0 .. from 0 by 1"), (Counts((10000,)), "10000"),
            (Counts((), (10000,), 1000), "10000 .. from 9001 by 1000"), (Counts((2,), (3,), 1), "2 .. from 2 by 1"),
            (Counts((4, 4, 1, 1)), "1 4"), (Counts((0,), (0,), 1000), "0 .. from 0 by 1000"),
        )
        for counts, text in told:
            self.assertEqual((str(counts), repr(counts)), (text, f"Counts({text})"))

    def test_properties_of_the_ends(self):
        none = Counts()
        self.assertEqual((none.start, none.period, none.members, none.first, none.endless), (0, 1, (), None, False))
        some = Counts((2, 7))
        self.assertEqual((some.start, some.period, some.members, some.first, some.endless), (8, 1, (2, 7), 2, False))
        every = Counts(again=(0,))
        self.assertEqual((every.start, every.period, every.members, every.first, every.endless), (0, 1, (0,), 0, True))
        late = Counts((), (9,), 4)
        self.assertEqual((late.start, late.period, late.members, late.first, late.endless), (6, 4, (9,), 9, True))

    def test_against_a_search(self):
        rng = random.Random(1)
        for _ in range(150):
            single, again, period = some_arguments(rng)
            with self.subTest(single=single, again=again, period=period):
                self.check(Counts(single, again, period), worked_out(single, again, period))

    def test_by_place_and_by_name(self):
        told = Counts((0, 3), (4,), 2)
        self.assertEqual(Counts(single=(0, 3), again=(4,), period=2), told)
        self.assertEqual(Counts((0, 3), period=2, again=(4,)), told)
        self.assertEqual(Counts(again=(4,), period=2), Counts((), (4,), 2))
        self.assertEqual(Counts(period=7), Counts())

    def test_members_by_in(self):
        counts = Counts((0, 3), (4,), 2)
        for value in (0, 3, 4, 6, 10 ** 20, 10 ** 30, 10 ** 39 + 8):
            self.assertIs(value in counts, True)
        for value in (1, 2, 5, -1, -2, -4, 10 ** 20 + 1, 10 ** 30 - 1, -10 ** 30):
            self.assertIs(value in counts, False)
        every = Counts(again=(0,))
        for value in (True, False, None, "", "0", "4", (), (4,), [], [4], {}, {4: 4}, object(), Counts(), counts, Texts()):
            self.assertIs(value in every, False)
        sevens = Counts((), (3,), 7)
        for value in (10 ** 20, 10 ** 29, 12345678901234567890):
            self.assertIs(value in sevens, value % 7 == 3)

    def test_equality(self):
        self.assertTrue(Counts((0, 2), (4,), 2) == Counts((), (0,), 2))
        self.assertFalse(Counts((0, 2), (4,), 2) != Counts((), (0,), 2))
        self.assertTrue(Counts((), (1, 3), 4) == Counts((), (1,), 2))
        self.assertFalse(Counts((), (1, 3), 4) == Counts((), (3,), 2))
        self.assertTrue(Counts((1,)) != Counts((1, 2)))
        self.assertFalse(Counts((1,)) == Counts((), (1,), 1000))
        for thing in (None, False, 0, "", "none", (), [], {}, object(), Counts, Texts()):
            self.assertIs(Counts() == thing, False)
            self.assertIs(thing == Counts(), False)
            self.assertIs(Counts() != thing, True)

    def test_all_are_true(self):
        for counts in (Counts(), Counts((0,)), Counts(again=(0,))):
            self.assertIs(bool(counts), True)

    def test_bounds(self):
        Counts((0, 10000), (0, 10000), 1)
        Counts((10000,), (10000,), 1000)
        for single in ((10001,), (-1,), (0, 10001), (3, -1)):
            with self.assertRaises(InvalidNumber) as caught:
                Counts(single)
            self.assertIs(caught.exception.given, single)
        for again in ((10001,), (-1,), (0, 10001)):
            with self.assertRaises(InvalidNumber) as caught:
                Counts((), again)
            self.assertIs(caught.exception.given, again)
        for period in (0, 1001, -1):
            with self.assertRaises(InvalidNumber) as caught:
                Counts((), (), period)
            self.assertIs(caught.exception.given, period)

    def test_wrong_arguments(self):
        rows = (
            None, True, False, 0, 5, "", "12", [], [1], {}, {1: 1}, object(), (True,), (1, False), (None,), ("1",), ((1,),), ([],),
            (10 ** 39,), Counts(), range(3), (1, 2, 10001),
        )
        periods = (None, True, False, "", "1", (), (1,), [], {}, object(), 0, -5, 1001, 10 ** 39, Counts())
        for given in rows:
            for other in ((), (1,), None, [1]):
                for period in (1, 0, None):
                    with self.subTest(given=given), self.assertRaises(InvalidNumber) as caught:
                        Counts(given, other, period)
                    self.assertIs(caught.exception.given, given)
            for period in (1, 0, None):
                with self.subTest(given=given), self.assertRaises(InvalidNumber) as caught:
                    Counts((1, 2), again=given, period=period)
                self.assertIs(caught.exception.given, given)
        for given in periods:
            with self.subTest(given=given), self.assertRaises(InvalidNumber) as caught:
                Counts((1, 2), (3,), given)
            self.assertIs(caught.exception.given, given)

    def test_many_numbers_are_done_soon(self):
        counts = Counts(tuple(range(10001)), tuple(range(10001)), 1000)
        self.assertEqual(str(counts), "0 .. from 0 by 1")
        self.assertEqual(len(Counts(tuple(range(0, 10001, 2)), (1,), 1000).members), 5001 + 11)


class OperatorsTest(CheckedCase):
    def test_against_sets(self):
        rng = random.Random(2)
        for _ in range(120):
            ours, theirs = some_arguments(rng, 20, 12), some_arguments(rng, 20, 12)
            left, right = Counts(*ours), Counts(*theirs)
            one, other = worked_out(*ours), worked_out(*theirs)
            with self.subTest(ours=ours, theirs=theirs):
                self.check(left | right, one | other)
                self.check(left & right, one & other)
                self.check(left - right, one - other)
                self.assertIs(left.within(right), one <= other)
                self.assertIs(left.within(other=left | right), True)
                self.check(left, one)

    def test_periods_that_share_a_part(self):
        four, six = Counts((), (1,), 4), Counts((), (3,), 6)
        self.assertEqual(str(four | six), "1 3 5 9 .. from 0 by 12")
        self.assertEqual(str(four & six), "9 .. from 0 by 12")
        self.assertEqual(str(four - six), "1 5 .. from 0 by 12")
        self.assertEqual(str(Counts((), (0,), 4) & Counts((), (1,), 6)), "none")
        self.assertEqual(str(Counts((), (0,), 2) | Counts((), (1,), 2)), "0 .. from 0 by 1")

    def test_periods_above_what_is_handed_over(self):
        one, other = Counts((), (1,), 997), Counts((), (2,), 991)
        both = one | other
        self.assertEqual((both.start, both.period, both.first), (0, 997 * 991, 1))
        self.assertEqual(len(both.members), 997 + 991 - 1)
        shared = one & other
        self.assertEqual((shared.start, shared.period, len(shared.members)), (0, 997 * 991, 1))
        self.assertEqual((shared.first % 997, shared.first % 991), (1, 2))
        self.assertIn(shared.first + 997 * 991 * 10 ** 20, shared)
        self.assertEqual(both - other, one - other)
        self.assertEqual((one - other) | shared, one)
        self.assertTrue(shared.within(one) and shared.within(other) and not one.within(shared))
        self.assertEqual(Counts((), (0,), 1000) & Counts((), (0,), 999), (Counts((), (0,), 999) & Counts((), (0,), 1000)))

    def test_nothing_is_changed(self):
        one, other = Counts((0, 3), (4,), 2), Counts((), (1,), 3)
        texts = str(one), str(other)
        self.assertEqual((one | other, one & other, one - other), (one | other, one & other, one - other))
        self.assertEqual((str(one), str(other)), texts)

    def test_not_a_counts(self):
        counts = Counts((1,), (4,), 3)
        for thing in (None, True, False, 0, 1, "", "none", (), (1,), [], [1], {}, {1: 1}, object(), Counts, Texts(), sample_loop()):
            for deed in (
                lambda: counts | thing, lambda: counts & thing, lambda: counts - thing, lambda: counts.within(thing),
                lambda: counts.within(other=thing),
            ):
                with self.subTest(thing=thing), self.assertRaises(NotACounts) as caught:
                    deed()
                self.assertIs(caught.exception.given, thing)

    def test_within(self):
        self.assertTrue(Counts().within(Counts()))
        self.assertTrue(Counts((3,)).within(Counts((), (1,), 2)))
        self.assertFalse(Counts((2, 3)).within(Counts((), (1,), 2)))
        self.assertFalse(Counts((), (1,), 2).within(Counts((1, 3, 5))))
        self.assertTrue(Counts((), (5,), 4).within(Counts((), (1,), 2)))


if __name__ == "__main__":
    unittest.main()
