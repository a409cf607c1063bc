import unittest

from overlapturns.errors import InvalidNumber
from overlapturns.worlds import Numbers, Texts

HUGE = 10 ** 39
BOUND = 10 ** 9
INDEXES = (0, 1, -1, 2, -3, 4, -4, 399, -399, 10 ** 20, HUGE, -HUGE)
KNOWN = ("k", "abcdefgh", "s@1", "x@2", "y@3", "?r", "?abcdefgh")
PAIRS = ((97, 3), (2, 0), (2, BOUND), (BOUND, 0), (BOUND, BOUND), (3, 1), (131, 7), (999999937, 99))


def code_by_hand(modulus, seed, text):
    """Point 15's code, written as one sum, of which the remainder is taken at the end."""
    length = len(text)
    terms = [ord(character) * 131 ** (length - 1 - at) for at, character in enumerate(text)]
    return ((seed + 1) * 131 ** length + sum(terms)) % modulus


def work_by_hand(modulus, seed, word, arguments):
    """Point 15's work; its remainder is taken at the end alone."""
    v = code_by_hand(modulus, seed, word)
    for a in arguments:
        v = v * (seed + 7) + a * (v + 13) + a * a + 29
    return v % modulus


def strange_things():
    return [
        None, True, False, 0, 1, -1, HUGE, "", "97", "Texts()", (), (97, 3), [], [97, 3], {}, {"modulus": 97},
        object(), Texts, Numbers,
    ]


class TextsTest(unittest.TestCase):
    def test_known_is_its_own_string(self):
        for name in KNOWN:
            with self.subTest(name=name):
                self.assertEqual(Texts().known(name), name)
                self.assertEqual(Texts().known(name=name), name)

    def test_cell(self):
        self.assertEqual(Texts().cell("A", -3), "A[-3]")
        self.assertEqual(Texts().cell("Z", 0), "Z[0]")
        self.assertEqual(Texts().cell("B", HUGE), "B[1" + "0" * 39 + "]")
        self.assertEqual(Texts().cell("B", -HUGE), "B[-1" + "0" * 39 + "]")
        self.assertEqual(Texts().cell(index=7, array="C"), "C[7]")
        self.assertEqual(Texts().cell("C", index=-7), "C[-7]")

    def test_work(self):
        self.assertEqual(Texts().work("f", ("a",)), "f(a)")
        self.assertEqual(Texts().work("f", ("a", "g(b)")), "f(a, g(b))")
        self.assertEqual(Texts().work("mul", ("s@1", "A[-3]", "?r")), "mul(s@1, A[-3], ?r)")
        self.assertEqual(Texts().work(arguments=("k", "k"), word="add"), "add(k, k)")
        self.assertEqual(Texts().work("add", arguments=("k",)), "add(k)")

    def test_repr(self):
        self.assertEqual(repr(Texts()), "Texts()")

    def test_equal_to_every_other_texts(self):
        self.assertTrue(Texts() == Texts())
        self.assertFalse(Texts() != Texts())

    def test_equal_to_nothing_else(self):
        for thing in strange_things() + [Numbers(97, 3), Numbers(2, 0)]:
            with self.subTest(thing=thing):
                self.assertIs(Texts() == thing, False)
                self.assertIs(thing == Texts(), False)
                self.assertIs(Texts() != thing, True)
                self.assertIs(thing != Texts(), True)

    def test_is_true(self):
        self.assertTrue(Texts())


class NumbersTest(unittest.TestCase):
    def test_example_of_the_document(self):
        world = Numbers(97, 3)
        told = [
            world.known("k"), world.known("s@1"), world.cell("A", 2), world.cell("A", -3), world.work("f", (5, 7)),
        ]
        self.assertEqual(told, [49, 23, 34, 55, 26])

    def test_steps_worked_out_by_hand(self):
        # Seed 3 begins with 4; 4 * 131 + ord("k") is 631, which leaves 49 by 97.
        self.assertEqual(Numbers(97, 3).known("k"), 49)
        # The code of f is (524 + 102) % 97 = 44; 44 * 10 + 5 * 57 + 25 + 29 = 779 leaves 3.
        self.assertEqual(Numbers(97, 3).work("f", (5,)), 3)
        # By 2 with seed 0: 131 + 107 is 238, which leaves 0.
        self.assertEqual(Numbers(2, 0).known("k"), 0)
        # (10^9 + 1) * 131 + 107 leaves 238 by 10^9.
        self.assertEqual(Numbers(BOUND, BOUND).known("k"), 238)

    def test_known(self):
        for modulus, seed in PAIRS:
            world = Numbers(modulus, seed)
            for name in KNOWN:
                with self.subTest(modulus=modulus, seed=seed, name=name):
                    self.assertEqual(world.known(name), code_by_hand(modulus, seed, name))
                    self.assertEqual(world.known(name=name), world.known(name))

    def test_cell(self):
        for modulus, seed in PAIRS:
            world = Numbers(modulus, seed)
            for array in "AMZ":
                for index in INDEXES:
                    with self.subTest(modulus=modulus, seed=seed, array=array, index=index):
                        text = array + "[" + str(index) + "]"
                        self.assertEqual(world.cell(array, index), code_by_hand(modulus, seed, text))
                        self.assertEqual(world.cell(index=index, array=array), world.cell(array, index))

    def test_work(self):
        for modulus, seed in PAIRS:
            world = Numbers(modulus, seed)
            last = modulus - 1
            for arguments in ((0,), (last,), (0, 1), (1, 0), (last, last), (1, 0, last), (last, last, last)):
                for word in ("f", "mul", "abcdefgh"):
                    with self.subTest(modulus=modulus, seed=seed, word=word, arguments=arguments):
                        told = world.work(word, arguments)
                        self.assertEqual(told, work_by_hand(modulus, seed, word, arguments))
                        self.assertEqual(world.work(arguments=arguments, word=word), told)

    def test_values_are_integers_below_the_modulus(self):
        for modulus, seed in PAIRS:
            world = Numbers(modulus, seed)
            last = modulus - 1
            for value in (world.known("k"), world.cell("A", -HUGE), world.work("f", (last, last, last))):
                with self.subTest(modulus=modulus, seed=seed, value=value):
                    self.assertIs(type(value), int)
                    self.assertTrue(0 <= value < modulus)

    def test_modulus_and_seed(self):
        for modulus, seed in PAIRS:
            for world in (Numbers(modulus, seed), Numbers(seed=seed, modulus=modulus), Numbers(modulus, seed=seed)):
                with self.subTest(world=world):
                    self.assertEqual((world.modulus, world.seed), (modulus, seed))

    def test_stays_as_it_is(self):
        world = Numbers(97, 3)
        for name in ("modulus", "seed"):
            with self.subTest(name=name):
                with self.assertRaises(AttributeError):
                    setattr(world, name, 5)
        self.assertEqual((world.modulus, world.seed, world.known("k")), (97, 3, 49))

    def test_repr(self):
        self.assertEqual(repr(Numbers(97, 3)), "Numbers(97, 3)")
        self.assertEqual(repr(Numbers(2, 0)), "Numbers(2, 0)")
        self.assertEqual(repr(Numbers(BOUND, BOUND)), "Numbers(1000000000, 1000000000)")

    def test_equal_exactly_if_modulus_and_seed_are(self):
        for one in PAIRS:
            for other in PAIRS:
                with self.subTest(one=one, other=other):
                    self.assertIs(Numbers(*one) == Numbers(*other), one == other)
                    self.assertIs(Numbers(*one) != Numbers(*other), one != other)
        self.assertFalse(Numbers(97, 3) == Numbers(97, 4))
        self.assertFalse(Numbers(97, 3) == Numbers(98, 3))
        self.assertFalse(Numbers(97, 3) == Numbers(3, 97))

    def test_equal_to_nothing_else(self):
        world = Numbers(97, 3)
        for thing in strange_things() + [Texts()]:
            with self.subTest(thing=thing):
                self.assertIs(world == thing, False)
                self.assertIs(thing == world, False)
                self.assertIs(world != thing, True)
                self.assertIs(thing != world, True)

    def test_is_true(self):
        self.assertTrue(Numbers(2, 0))


class WrongNumbersTest(unittest.TestCase):
    def strange_values(self):
        return [
            True, False, None, "", "97", (), (97,), [], [97], {}, {"modulus": 97}, HUGE, -HUGE, 10 ** 40 - 1, Texts(),
        ]

    def wrong_moduli(self):
        return [1, 0, -1, -2, -97, BOUND + 1, 2 * BOUND] + self.strange_values()

    def wrong_seeds(self):
        return [-1, -2, -3, BOUND + 1, 2 * BOUND] + self.strange_values()

    def check_refused(self, modulus, seed, given):
        with self.subTest(modulus=modulus, seed=seed):
            for make in (lambda: Numbers(modulus, seed), lambda: Numbers(seed=seed, modulus=modulus)):
                with self.assertRaises(InvalidNumber) as held:
                    make()
                self.assertIs(type(held.exception), InvalidNumber)
                self.assertIs(held.exception.given, given)

    def test_wrong_modulus(self):
        for modulus in self.wrong_moduli():
            for seed in (0, 3, BOUND):
                self.check_refused(modulus, seed, modulus)

    def test_wrong_seed(self):
        for seed in self.wrong_seeds():
            for modulus in (2, 97, BOUND):
                self.check_refused(modulus, seed, seed)

    def test_of_two_wrong_ones_the_first_is_told(self):
        for modulus in self.wrong_moduli():
            for seed in self.wrong_seeds():
                self.check_refused(modulus, seed, modulus)


if __name__ == "__main__":
    unittest.main()
