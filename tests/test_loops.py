import random
import unittest

import makers
from plainly import loop_end
from overlapturns.errors import InvalidNumber, InvalidText, NotAWorld
from overlapturns.loops import Loop
from overlapturns.outcomes import Outcome
from overlapturns.programs import Program
from overlapturns.worlds import Numbers, Texts

SUM = "in k\nx = load A 0\ny = mul x k\ns = add s@1 y\nstore B 0 s\nout s"
EVERY = (
    "in k c\nx = load Z -4\ny = f k x@3 z@2\nz = g y\nw = h x c\nstore A 4 z@1\nstore A -4 k\nv = load B 4\n"
    "u = i v\nout u x w y"
)
ONE = "x = f x@1"
WRONG_COUNTS = (-1, 401, True, False, None, "1", "", (), (1,), [], [1], {}, {1: 1}, 10 ** 39, -10 ** 39, object(), Texts())
WRONG_WORLDS = (None, True, 0, 97, "Texts()", (), (97, 3), [], {}, object(), Texts, Numbers, Loop(ONE))
NO_STRINGS = (None, True, False, 0, 1, -1, 10 ** 39, (), (ONE,), [], [ONE], {}, {ONE: ONE}, object(), b"x = f x@1", Loop)

# Each breaks one clause alone.
WRONG_TEXTS = (
    "", "\n", " ", ONE + "\n", "\n" + ONE, ONE + "\n\n" + "y = f x", "x  = f x@1", " x = f x@1", "x = f x@1 ",
    "x = f  x@1", "x\t= f x@1", "x = f x@1\r", "in  k\nx = f k", "in k \nx = f k", "in k\nx = f k\nout x ", "x=f x@1",
    "in k", "out x", "in k\nout k", "in k\nin c\nx = f k", ONE + "\nout x\nout x",
    "\n".join(f"{name} = f x@1" for name in "xyzwvuabc"), "\n".join(["store A 0 x@1"] * 8 + [ONE]),
    "in a b c d e\nx = f a", "\n".join(f"{name} = f x@1" for name in "xyzwv") + "\nout x y z w v",
    "in abcdefghi\nx = f k", "abcdefghi = f abcdefghi@1", "x = abcdefghi x@1", "x = f abcdefghi@1",
    "X = f x@1", "x1 = f x@1", "x_ = f x@1", "x = F x@1", "x = f X@1", "in K\nx = f x@1", "in \nx = f x@1", " = f x@1",
    "x = f x@1\nx = g x@1", "in x\nx = f x", "in k k\nx = f k", "x = f x@1\ny = load A 0\ny = f x", "x = load A 0\nx = f x@1",
    "x = load A 5", "x = load A -5", "x = load A +1", "x = load A -0", "x = load A 01", "x = load A 00", "x = load A -01",
    "x = load A 1.", "x = load A", "x = load A 1 1", "x = load A x", "x = load a 1", "x = load AB 1", "x = load 1 A",
    "x = load A " + "1" * 39, "x = load  1", "load A 0", "x load A 0", "x = loads A 0",
    "in k\nstore A 5 k", "in k\nstore A -5 k", "in k\nstore A +1 k", "in k\nstore A -0 k", "in k\nstore A 01 k",
    "in k\nstore a 1 k", "in k\nstore A 1", "in k\nstore A 1 k k", "in k\nstore AB 1 k", "in k\nx = store A 1 k",
    "store A 0 k", "store A 0 x\nx = load A 0", "in k\nstore A 0 1", "in k\nstore A 0 k@1", "store A 0 x@4\n" + ONE,
    "x = f x@0", "x = f x@4", "x = f x@01", "x = f x@+1", "x = f x@-1", "x = f x@", "x = f @1", "x = f x@1@1", "x = f x@11",
    "x = f y\ny = f x", "x = f x", "in k\nx = f k@1", "x = f y", "x = f y@1", "x = f", "x = f x@1 x@1 x@1 x@1", "x f x@1",
    "x = f x@1\ny = f x x", "x = f x@1\ny = g x\nz = f x x x", "x == f x@1", "= f x@1", "f x@1", "x =", "x",
    "in k\nx = f k\nout k", "x = f x@1\nout x x", "x = f x@1\nout y", "x = f x@1\nout x@1", "x = f x@1\nout f",
    "x = f x@1\nstore A 0 x\nout A", "x = f x@1\nin k", "out x\nx = f x@1", "x = f x@1\nout x\ny = f x", "in\nx = f x@1",
    "x = f x@1\nout", "x = f x@1\nin k\ny = f x", "x = f x@1\nstep 1", "x = f x@1\ny = x", "while 1\nx = f x@1\nend",
    "take x x@1\nx = f x@1", "x = take x@1", "x = f x@1\ny = out x", "# x", "x = f x@1 # x",
)


class LoopTextTest(unittest.TestCase):
    def test_sample(self):
        loop = Loop(SUM)
        self.assertEqual(loop.text, SUM)
        self.assertEqual(loop.lines, tuple(SUM.split("\n")))
        self.assertEqual(loop.inputs, ("k",))
        self.assertEqual(loop.names, ("x", "y", "s"))
        self.assertEqual(loop.outs, ("s",))
        self.assertEqual(loop.arrays, ("A", "B"))
        self.assertEqual(loop.words, (("add", 2), ("mul", 2)))
        self.assertEqual((str(loop), repr(loop)), (SUM, "Loop(4 steps)"))

    def test_every_kind_of_line(self):
        loop = Loop(text=EVERY)
        self.assertEqual(loop.inputs, ("k", "c"))
        self.assertEqual(loop.names, ("x", "y", "z", "w", "v", "u"))
        self.assertEqual(loop.outs, ("u", "x", "w", "y"))
        self.assertEqual(loop.arrays, ("A", "B", "Z"))
        self.assertEqual(loop.words, (("f", 3), ("g", 1), ("h", 2), ("i", 1)))
        self.assertEqual(repr(loop), "Loop(8 steps)")

    def test_least(self):
        loop = Loop(ONE)
        self.assertEqual((loop.lines, loop.inputs, loop.names, loop.outs), ((ONE,), (), ("x",), ()))
        self.assertEqual((loop.arrays, loop.words, str(loop), repr(loop)), ((), (("f", 1),), ONE, "Loop(1 steps)"))
        self.assertEqual(Loop("in k\nstore A 0 k").names, ())
        self.assertEqual(Loop("in k\nstore A 0 k").words, ())

    def test_equality(self):
        self.assertTrue(Loop(SUM) == Loop(SUM))
        self.assertFalse(Loop(SUM) != Loop(SUM))
        for other in ("in k\nx = load A 0", SUM.replace("mul", "times"), ONE):
            self.assertFalse(Loop(SUM) == Loop(other))
            self.assertTrue(Loop(SUM) != Loop(other))
        for thing in NO_STRINGS + (ONE, Program("x = f x"), Program("step 1"), Texts()):
            self.assertIs(Loop(ONE) == thing, False)
            self.assertIs(thing == Loop(ONE), False)
            self.assertIs(Loop(ONE) != thing, True)
        self.assertTrue(Loop(ONE))

    def test_wrong_texts(self):
        for text in WRONG_TEXTS:
            with self.subTest(text=text), self.assertRaises(InvalidText) as caught:
                Loop(text)
            self.assertIs(caught.exception.given, text)

    def test_words_of_the_form_are_no_names(self):
        for word in ("in", "out", "load", "store", "take", "step", "if", "else", "while", "end"):
            texts = (
                f"{word} = f {word}@1", f"in {word}\nx = f {word}", f"x = {word} x@1", f"in k\nx = {word} k k",
                f"y = f x@1\nx = f {word}@1", f"x = f x@1\nout {word}", f"in k\nstore A 0 {word}",
            )
            for text in texts:
                with self.subTest(text=text), self.assertRaises(InvalidText):
                    Loop(text)

    def test_no_strings(self):
        for thing in NO_STRINGS:
            with self.subTest(thing=thing), self.assertRaises(InvalidText) as caught:
                Loop(thing)
            self.assertIs(caught.exception.given, thing)

    def test_greatest_that_is_allowed(self):
        names = "xyzwvuab"
        texts = (
            "\n".join(f"{name} = f x@3" for name in names), "in a b c d\nx = f a b c\nstore A 4 d",
            "\n".join(f"{name} = f x@3" for name in names) + "\nout x y z w", "in abcdefgh\nx = abcdefgh abcdefgh",
            "abcdefgh = f abcdefgh@3\nout abcdefgh", "x = load A -4\ny = load A 4\nstore Z 4 x\nstore Z -4 y", "x = f y@3\ny = g x",
            "x = f y@1 x@2 z@3\ny = f x y@1 z@1\nz = f x y z@3", "\n".join(["store A 0 x@1"] * 7 + [ONE]),
        )
        for text in texts:
            with self.subTest(text=text):
                self.assertEqual(Loop(text).text, text)

    def test_function_words_spelled_like_names(self):
        for text in ("x = x x@1", "in k\nx = k k\ny = x k\nout x", "f = g f@1\ng = f g@1", "a = b b@1\nb = a a"):
            with self.subTest(text=text):
                self.assertEqual(Loop(text).text, text)
        self.assertEqual(Loop("f = g f@1\ng = f g@1").words, (("f", 1), ("g", 1)))


class LoopRunTest(unittest.TestCase):
    def check(self, text, count, world):
        end = Loop(text).run(count, world)
        told = loop_end(text, count, world)
        self.assertIsInstance(end, Outcome)
        self.assertEqual(end.results, told.results)
        self.assertEqual(end.stored, tuple(sorted(told.cells)))
        self.assertEqual(end.loaded, tuple(sorted(told.loaded)))
        self.assertEqual(end.kinds, tuple(told.kinds))
        for array, index in told.touched() | {("A", 0), ("B", -7), ("Y", 10 ** 20)}:
            self.assertEqual(end.value(array, index), told.content(array, index))

    def test_sample_in_texts(self):
        ends = [Loop(SUM).run(count, Texts()) for count in (0, 1, 2, 3)]
        second = "add(add(s@1, mul(A[0], k)), mul(A[1], k))"
        told = ("s@1", "add(s@1, mul(A[0], k))", second, f"add({second}, mul(A[2], k))")
        self.assertEqual([end.results for end in ends], [(text,) for text in told])
        self.assertEqual(ends[2].stored, (("B", 0), ("B", 1)))
        self.assertEqual(ends[2].loaded, (("A", 0), ("A", 1)))
        self.assertEqual([ends[2].value("B", at) for at in (-1, 0, 1, 2)], ["B[-1]", told[1], told[2], "B[2]"])
        self.assertEqual([end.kinds for end in ends[:3]], [(0,) * 6, (2, 1, 1, 0, 0, 0), (4, 2, 2, 0, 0, 0)])

    def test_first_values_of_all_distances(self):
        text = "x = f x@1 x@2 x@3\nout x"
        ends = [Loop(text).run(count, Texts()).results[0] for count in range(4)]
        self.assertEqual(ends[0], "x@1")
        self.assertEqual(ends[1], "f(x@1, x@2, x@3)")
        self.assertEqual(ends[2], f"f({ends[1]}, x@1, x@2)")
        self.assertEqual(ends[3], f"f({ends[2]}, {ends[1]}, x@1)")

    def test_value_of_this_turn_and_of_earlier_ones(self):
        text = "x = f y@2\ny = g x x@1\nout y x"
        self.assertEqual(Loop(text).run(0, Texts()).results, ("y@1", "x@1"))
        self.assertEqual(Loop(text).run(1, Texts()).results, ("g(f(y@2), x@1)", "f(y@2)"))
        self.assertEqual(Loop(text).run(2, Texts()).results, ("g(f(y@1), f(y@2))", "f(y@1)"))
        self.assertEqual(Loop(text).run(3, Texts()).results[1], "f(g(f(y@2), x@1))")

    def test_loads_behind_stores(self):
        text = "in k\nx = load A -1\nstore A 0 k\ny = load A 0\nz = f x y\nstore A 0 z\nstore B 2 x\nout x y z"
        self.assertEqual(Loop(text).run(1, Texts()).results, ("A[-1]", "k", "f(A[-1], k)"))
        end = Loop(text).run(2, Texts())
        self.assertEqual(end.results, ("f(A[-1], k)", "k", "f(f(A[-1], k), k)"))
        self.assertEqual(end.value("B", 3), "f(A[-1], k)")
        self.assertEqual(end.loaded, (("A", -1), ("A", 0), ("A", 1)))
        self.assertEqual(end.stored, (("A", 0), ("A", 1), ("B", 2), ("B", 3)))

    def test_all_counts_in_numbers(self):
        world = Numbers(999999937, 5)
        for text in (SUM, EVERY, ONE, "in k\nx = load A -4\nstore A 4 x\nstore A 0 k\nout x"):
            for count in (0, 1, 2, 3, 7, 400):
                with self.subTest(text=text, count=count):
                    self.check(text, count, world)

    def test_made_loops(self):
        rng = random.Random(5)
        for _ in range(150):
            text = makers.some_loop(rng, ("work", "load", "store"))
            with self.subTest(text=text):
                self.check(text, rng.randrange(4), Texts())
                self.check(text, rng.choice((5, 11, 40)), Numbers(10 ** 9, rng.randrange(100)))

    def test_long_run_is_done_soon(self):
        text = "\n".join(f"{name} = f {name}@1 x@3" for name in "xyzwvuab") + "\nout x y z w"
        self.check(text, 400, Numbers(97, 3))

    def test_by_place_and_by_name(self):
        loop = Loop(SUM)
        told = loop.run(3, Texts())
        self.assertEqual(loop.run(count=3, world=Texts()), told)
        self.assertEqual(loop.run(world=Texts(), count=3), told)
        self.assertEqual(loop.run(3, world=Texts()), told)

    def test_wrong_counts_and_worlds(self):
        loop = Loop(SUM)
        for count in WRONG_COUNTS:
            for world in (Texts(), Numbers(97, 3), None, "x"):
                with self.subTest(count=count), self.assertRaises(InvalidNumber) as caught:
                    loop.run(count, world)
                self.assertIs(caught.exception.given, count)
        for world in WRONG_WORLDS:
            with self.subTest(world=world), self.assertRaises(NotAWorld) as caught:
                loop.run(0, world)
            self.assertIs(caught.exception.given, world)


if __name__ == "__main__":
    unittest.main()
