import unittest

from overlapturns.errors import InvalidArray, InvalidNumber
from overlapturns.loops import Loop
from overlapturns.outcomes import Outcome
from overlapturns.programs import Program
from overlapturns.worlds import Numbers, Texts

SUM = Loop("in k\nx = load A 0\ny = mul x k\ns = add s@1 y\nstore B 0 s\nout s")
HUGE = 10 ** 39


class ValueTest(unittest.TestCase):
    def test_cells_stored_and_not(self):
        end = Program("take a k\nstore A 0 a\nstep 1\nstore A 0 a\nstore A -1 b\nc = load C 4\nout c").run(0, Texts())
        told = {("A", 0): "?b", ("A", 1): "k", ("A", -1): "A[-1]", ("A", 2): "A[2]", ("C", 5): "C[5]", ("Q", HUGE): f"Q[{HUGE}]"}
        for (array, index), value in told.items():
            self.assertEqual(end.value(array, index), value)
            self.assertEqual(end.value(index=index, array=array), value)
            self.assertEqual(end.value(array, index=index), value)
        self.assertEqual(end.stored, (("A", 0), ("A", 1)))
        world = Numbers(97, 3)
        self.assertEqual(SUM.run(2, world).value("Z", -5), world.cell("Z", -5))

    def test_properties_are_rows(self):
        end = SUM.run(2, Texts())
        for row in (end.results, end.stored, end.loaded, end.kinds):
            self.assertIsInstance(row, tuple)
        self.assertEqual(len(end.kinds), 6)
        self.assertEqual(SUM.run(0, Texts()).stored, ())
        self.assertEqual(SUM.run(0, Texts()).loaded, ())
        self.assertTrue(SUM.run(0, Texts()))

    def test_rows_rise_by_the_letter_and_then_the_integer(self):
        text = "store C 2 a\nstore A 4 a\nstore B -4 a\nstore A -3 a\nb = load Z 0\nb = load B 3\nb = load B -3\nb = load B 3"
        end = Program(text).run(0, Texts())
        self.assertEqual(end.stored, (("A", -3), ("A", 4), ("B", -4), ("C", 2)))
        self.assertEqual(end.loaded, (("B", -3), ("B", 3), ("Z", 0)))

    def test_wrong_arrays_and_indexes(self):
        end = SUM.run(2, Texts())
        for array in ("", "a", "AB", "1", "[", "@", " ", None, True, 1, ("A",), ["A"], {"A": 1}, {}, object(), b"A"):
            for index in (0, None, "0"):
                with self.subTest(array=array, index=index), self.assertRaises(InvalidArray) as caught:
                    end.value(array, index)
                self.assertIs(caught.exception.given, array)
        for index in (True, False, None, "0", "", (), (0,), [], [0], {}, object()):
            with self.subTest(index=index), self.assertRaises(InvalidNumber) as caught:
                end.value("A", index)
            self.assertIs(caught.exception.given, index)


class EqualityTest(unittest.TestCase):
    def same(self, one, other):
        self.assertIsInstance(one, Outcome)
        self.assertTrue(one == other)
        self.assertFalse(one != other)

    def unlike(self, one, other):
        self.assertIs(one == other, False)
        self.assertIs(other == one, False)
        self.assertIs(one != other, True)

    def test_equal_runs(self):
        for world in (Texts(), Numbers(97, 3)):
            self.same(SUM.run(5, world), SUM.run(5, world))

    def test_each_property_counts(self):
        base = Program("take a k\nstore A 0 a\nb = load B 0\nout a").run(0, Texts())
        for text in (
            "take a k\nstore A 0 a\nb = load B 0\nout b", "take a k\nstore A 1 a\nb = load B 0\nout a",
            "take a k\nstore A 0 a\nb = load B 1\nout a", "take a k\nstore A 0 a\nb = load B 0\nb = b\nout a",
            "take a k\nstore A 0 b\nb = load B 0\nout a", "take a k\nif 1\nend\nstore A 0 a\nb = load B 0\nout a",
            "take a k\nstore A 0 a\nb = load B 0\nout a a", "take a k\nstore A 0 a\nb = load B 0",
        ):
            with self.subTest(text=text):
                self.unlike(base, Program(text).run(0, Texts()))

    def test_what_the_texts_differ_in_does_not_count(self):
        one = Program("take a k\nstore A 0 a\nb = load B 0\nout a").run(0, Texts())
        self.same(one, Program("take c k\nd = load B 0\nstore A 0 c\nout c").run(9, Texts()))
        self.same(Loop("in k\nstore A 0 k").run(1, Texts()), Program("take a k\nstore A 0 a").run(0, Texts()))

    def test_a_loop_and_a_program(self):
        loop = Loop("in k\nstore A 0 k\nx = load B 0\nout x")
        self.same(loop.run(1, Texts()), Program("take a k\nstore A 0 a\nb = load B 0\nout b").run(1, Texts()))

    def test_unlike_worlds(self):
        loop = Loop("x = load A 0")
        self.same(loop.run(3, Texts()), loop.run(3, Numbers(97, 3)))
        self.same(loop.run(3, Numbers(5, 1)), loop.run(3, Numbers(97, 3)))
        self.unlike(SUM.run(3, Texts()), SUM.run(3, Numbers(97, 3)))
        self.unlike(SUM.run(3, Numbers(97, 4)), SUM.run(3, Numbers(97, 3)))
        store = Loop("x = load A 0\nstore B 0 x")
        self.unlike(store.run(1, Texts()), store.run(1, Numbers(97, 3)))
        self.same(store.run(0, Texts()), store.run(0, Numbers(97, 3)))
        # By 2 both worlds have the same code for A[0], so that B[0] holds the same.
        self.assertEqual(Numbers(2, 0).cell("A", 0), Numbers(2, 2).cell("A", 0))
        self.same(store.run(1, Numbers(2, 0)), store.run(1, Numbers(2, 2)))

    def test_nothing_else(self):
        end = SUM.run(2, Texts())
        for thing in (None, True, 0, "", (), [], {}, object(), SUM, Texts(), Outcome, end.results, (end,)):
            self.unlike(end, thing)


if __name__ == "__main__":
    unittest.main()
