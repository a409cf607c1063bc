import random
import time
import unittest

import makers
import strange
from plainly import Numbered, ProgramRun, first_error, loop_end
from overlapturns.errors import InvalidNumber, NotALoop, TooFar
from overlapturns.judging import first_wrong, wrong_counts
from overlapturns.loops import Loop
from overlapturns.made import ahead, plain, unrolled
from overlapturns.programs import Program
from overlapturns.samples import sample_loop
from overlapturns.touching import first_beyond
from overlapturns.worlds import Numbers

NO_TIMES = (0, 1, 5, -2, True, False, None, "2", "", (), (2,), [2], {}, object(), 10 ** 39, -10 ** 39, Numbers(97, 3))
NO_TURNS = (0, 4, -1, True, False, None, "1", "", (), (1,), [1], {}, object(), 10 ** 39, -10 ** 39, Numbers(97, 3))

LONG_NAMES = (
    "in aaaaaaaa aaaaaaab aaaaaaac aaaaaaad\naaaaaaae = f aaaaaaae@3 aaaaaaaf@2 aaaaaaag@1\naaaaaaaf = g aaaaaaal@3 aaaaaaak@3 aaaaaaaj@3\n"
    "aaaaaaag = f aaaaaaaf@3 aaaaaaag@3 aaaaaaah@3\naaaaaaah = load A 1\naaaaaaai = load B -1\naaaaaaaj = load A 0\naaaaaaak = load C -4\n"
    "aaaaaaal = f aaaaaaai@3 aaaaaaah aaaaaaaa\nout aaaaaaae aaaaaaal aaaaaaai aaaaaaah"
)
LOOPS = (
    sample_loop().text, LONG_NAMES,
    # One step alone, of each kind.
    "x = load A 1\nout x", "in k\nstore A -4 k", "in k\nx = f k\nout x", "x = f x@3\nout x", "x = load A -4", "x = f x@1 x@2 x@3",
    # Function words that are spelled like names and like places.
    "in k\nx = x k x@1\nxa = k xa@1\nout x xa", "x = xa x@1 x@2\nxa = xb xa@1\nxb = x xb@3 x\nout x xa xb", "in a\nb = a b@2\nc = b a\nout b c",
    # Names that places made of other names could have.
    "x = load A 1\nxp = load A 0\nxa = f x@1 xp@1 x\nxq = f xa@3 xp@2 xq@1\nout x xq", "i = f i@1\no = f o@1\ninn = g i@2 o@2\nout i o inn",
    # Results that are loaded, stored, handed on.
    "x = load A 0\nstore B 0 x\nout x", "x = load A 1\ny = f x@3\nout x y", "in k\nx = load A 0\nstore C 1 x@2\nstore C 2 k\nout x",
    # Loads behind stores in the same turn and in later ones.
    "in k\nx = f k x@1\nstore A 1 x\ny = load A 1\nz = load A 0\nout y z", "x = load B 1\nstore A 2 x\ny = load A -1\nstore B -2 y\nz = load C 0\nout z y",
    "x = load A -1\ny = load B 1\nstore A 0 y\nstore A 0 x\nz = load A -4\nout x z",
    # Earlier values of all three distances of one and of several names.
    "x = f x@1 x@2 x@3\nout x", "x = load A 0\ny = f x@1 x@2 x@3\nz = g y@3 x@3\nw = f z@1 z@2 y@1\nout w z", "x = f y@3\ny = f z@2\nz = f x@1\nout x y z",
    # Eight steps.
    "\n".join(f"{name} = load {array} {at // 2 - 3}" for at, (name, array) in enumerate(zip("stuvwxyz", "ABCABCAB"))) + "\nout s z v",
    "in k\n" + "\n".join(f"{name} = f {name}@3 {other}@2 {other}@3" for name, other in zip("abcdefgh", "bcdefgha")) + "\nout a c e g",
    "in k c d e\na = load A 1\nb = load A 1\nstore B 0 a\nstore B 0 b\nf = g a@3 b@3\nstore C 0 f\nh = load C -1\nm = h k c d\nout a b f m",
)


def nearest(loop):
    """The greatest offset of a load from an array without stores, and the array of the first such load, by the turns."""
    rows = [line.split() for line in loop.lines]
    stored = {row[1] for row in rows if row[0] == "store"}
    return [(row[3], int(row[4])) for row in rows if len(row) == 5 and row[2] == "load" and row[3] not in stored]


def too_far(loop, turns):
    return next((array for array, offset in nearest(loop) if offset + turns > 4), None)


class Noted(ProgramRun):
    """A run that notes at which pointer each cell is loaded."""

    def __init__(self, text, count):
        self.noted = {}
        super().__init__(text, count, Numbered())

    def line(self, row):
        if len(row) == 5 and row[2] == "load":
            self.noted.setdefault((row[3], self.pointer + int(row[4])), set()).add(self.pointer)
        super().line(row)


def some_loops(seed, many):
    rng = random.Random(seed)
    kinds = (("work", "load", "store"), ("load", "load", "work"), ("work",), ("load", "store"), ("work", "work", "load", "load", "store"))
    return [makers.some_loop(rng, kinds[at % len(kinds)]) for at in range(many)]


class MadeCase(unittest.TestCase):
    def right(self, loop, program):
        self.assertIsInstance(program, Program)
        for count in range(15):
            self.assertIsNone(first_error(loop.text, program.text, count))
        self.assertIsNone(first_wrong(loop, program))
        self.assertEqual(str(wrong_counts(loop, program)), "none")

    def bodies(self, program):
        """The lines within each `while`, with the bound."""
        bodies = []
        lines = iter(program.lines)
        for line in lines:
            if line.startswith("while "):
                body = []
                for below in lines:
                    if below == "end":
                        break
                    body.append(below)
                bodies.append((int(line.split()[1]), body))
        return bodies

    def steps(self, body):
        return sum(int(line.split()[1]) for line in body if line.startswith("step "))


class PlainTest(MadeCase):
    def test_loops_of_all_kinds(self):
        for text in LOOPS + tuple(some_loops(41, 60)):
            with self.subTest(loop=text):
                loop = Loop(text)
                program = plain(loop)
                self.right(loop, program)
                self.assertEqual([self.steps(body) for _, body in self.bodies(program)], [1])
                self.assertEqual([line for line in program.lines if line.startswith("if ")], [])
                self.assertEqual(program, plain(Loop(text)))
                self.assertEqual(plain(loop=loop), program)
                self.assertEqual(loop, Loop(text))

    def test_of_the_sample(self):
        program = plain(sample_loop())
        self.assertIsNone(first_beyond(sample_loop(), program))
        self.assertEqual(sorted(value for _, value in program.takes), ["k", "s@1"])


class UnrolledTest(MadeCase):
    def test_loops_of_all_kinds(self):
        for text in LOOPS + tuple(some_loops(42, 30)):
            loop = Loop(text)
            for times in (2, 3, 4):
                with self.subTest(loop=text, times=times):
                    program = unrolled(loop, times)
                    self.right(loop, program)
                    self.assertEqual(self.steps(self.bodies(program)[0][1]), times)
                    self.assertEqual(program, unrolled(times=times, loop=Loop(text)))

    def test_no_times(self):
        for given in NO_TIMES:
            with self.subTest(given=given), self.assertRaises(InvalidNumber) as caught:
                unrolled(sample_loop(), given)
            self.assertIs(caught.exception.given, given)


class AheadTest(MadeCase):
    def check(self, loop, turns):
        program = ahead(loop, turns)
        self.right(loop, program)
        self.assertIsNone(first_beyond(loop, program))
        for count in range(15):
            run = Noted(program.text, count)
            self.assertLessEqual(run.end.touched(), loop_end(loop.text, count, Numbered()).touched())
            if count >= turns:
                noted = {}
                for array, offset in nearest(loop):
                    for turn in range(count):
                        noted.setdefault((array, turn + offset), set()).add(max(turn - turns, 0))
                arrays = {array for array, _ in nearest(loop)}
                self.assertEqual({cell: run.noted[cell] for cell in run.noted if cell[0] in arrays}, noted)
        self.assertEqual(program, ahead(turns=turns, loop=Loop(loop.text)))

    def test_loops_of_all_kinds(self):
        done = []
        for text in LOOPS + tuple(some_loops(43, 50)):
            loop = Loop(text)
            for turns in (1, 2, 3):
                with self.subTest(loop=text, turns=turns):
                    far = too_far(loop, turns)
                    done.append(far)
                    if far is None:
                        self.check(loop, turns)
                    else:
                        with self.assertRaises(TooFar) as caught:
                            ahead(loop, turns)
                        self.assertEqual(caught.exception.given, far)
        self.assertGreater(done.count(None), 100)
        self.assertGreater(len(done) - done.count(None), 10)

    def test_too_far(self):
        for offset in range(-4, 5):
            for turns in (1, 2, 3):
                loop = Loop(f"x = load B {offset}\ny = load A {offset}\nout x y")
                if offset + turns > 4:
                    with self.assertRaises(TooFar) as caught:
                        ahead(loop, turns)
                    self.assertEqual(caught.exception.given, "B")
                else:
                    self.check(loop, turns)

    def test_the_first_array_that_is_too_far(self):
        for text, turns, given in (
            ("x = load D 1\ny = load C 2\nz = load B 3\nw = load A 4\nout x", 1, "A"), ("x = load D 1\ny = load C 2\nz = load B 3\nw = load A 4\nout x", 2, "B"),
            ("x = load D 1\ny = load C 2\nz = load B 3\nw = load A 4\nout x", 3, "C"), ("x = load D 4\nstore D 0 x\ny = load E 4", 1, "E"),
            ("x = load A 0\ny = load B 4\nz = load A 4\nout x", 1, "B"), ("x = load A 0\nz = load A 4\ny = load B 4\nout x", 2, "A"),
        ):
            with self.subTest(text=text, turns=turns), self.assertRaises(TooFar) as caught:
                ahead(Loop(text), turns)
            self.assertEqual(caught.exception.given, given)

    def test_arrays_that_are_stored_into_are_never_too_far(self):
        for text in ("x = load A 4\nstore A -4 x\nout x", "x = load A 4\ny = load B 1\nstore A 4 y\nout x", "x = f x@1\nout x"):
            for turns in (1, 2, 3):
                self.check(Loop(text), turns)

    def test_no_turns(self):
        far = Loop("x = load A 4\nout x")
        for given in NO_TURNS:
            for loop in (sample_loop(), far):
                with self.subTest(given=given), self.assertRaises(InvalidNumber) as caught:
                    ahead(loop, given)
                self.assertIs(caught.exception.given, given)


class LimitsTest(MadeCase):
    def test_greatest_loops(self):
        # As many takes, copies, loads and stores as there can be.
        names = "abcdefgh"
        works = "in m n o p\n" + "\n".join(f"{name} = f m {name}@3 {names[at - 1]}@3" for at, name in enumerate(names)) + "\nout a b c d"
        loads = "in m n o p\n" + "\n".join(f"{name} = load {array} 1" for name, array in zip("abcdef", "UVWXYZ"))
        loads += "\ng = f a@3 b@3 c@3\nh = f d@3 e@3 f@3\nout a b g h"
        mixed = "in m n o p\n" + "\n".join(f"{name} = load Z 1" for name in "abcde") + "\ng = f a@3 b@3 c@3\nh = f d@3 e@3 g@3\nstore A 0 h@3\nout a b g h"
        for text in (works, loads, mixed, LONG_NAMES):
            loop = Loop(text)
            for program in (plain(loop), unrolled(loop, 2), unrolled(loop, 3), unrolled(loop, 4), ahead(loop, 1), ahead(loop, 2), ahead(loop, 3)):
                self.assertLessEqual(len(program.lines), 400)
                self.assertLessEqual(len(program.places), 80)
                self.right(loop, program)

    def test_within_seconds(self):
        begun = time.perf_counter()
        for text in LOOPS:
            plain(Loop(text))
            unrolled(Loop(text), 4)
            if too_far(Loop(text), 3) is None:
                ahead(Loop(text), 3)
        self.assertLess(time.perf_counter() - begun, 10)


class WrongInputsTest(unittest.TestCase):
    def test_no_loops(self):
        for given in strange.NO_LOOPS:
            for deed in (lambda: plain(given), lambda: unrolled(given, 2), lambda: unrolled(given, 9), lambda: ahead(given, 1), lambda: ahead(given, None)):
                with self.subTest(given=given), self.assertRaises(NotALoop) as caught:
                    deed()
                self.assertIs(caught.exception.given, given)


if __name__ == "__main__":
    unittest.main()
