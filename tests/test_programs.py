import random
import unittest

import makers
from plainly import program_end
from overlapturns.errors import InvalidNumber, InvalidText, NotAWorld
from overlapturns.loops import Loop
from overlapturns.outcomes import Outcome
from overlapturns.programs import Program
from overlapturns.worlds import Numbers, Texts

SUM = (
    "take s s@1\ntake k k\nif 1\nx = load A 0\nwhile 2\ny = mul x k\nx = load A 1\ns = add s y\n"
    "store B 0 s\nstep 1\nend\ny = mul x k\ns = add s y\nstore B 0 s\nstep 1\nend\nout s"
)
EVERY = (
    "take a k\ntake b x@3\ntake d x@1\nz = f a b d\ny = load Z -4\nstore C 4 z\nz = y\nz = z\nstep 4\nif 0\nelse\nend\n"
    "if 12\nwhile 12\nstep 4\nw = g z\nstep 4\nend\nend\nif 3\nif 2\nif 1\nelse\nwhile 1\nstep 1\nend\nend\nend\nend\nout z z w q"
)
WRONG_COUNTS = (-1, 401, True, False, None, "1", "", (), (1,), [], [1], {}, {1: 1}, 10 ** 39, -10 ** 39, object(), Texts())
WRONG_WORLDS = (None, True, 0, 97, "Texts()", (), (97, 3), [], {}, object(), Texts, Numbers, Program("step 1"))
NO_STRINGS = (None, True, False, 0, 1, -1, 10 ** 39, (), ("step 1",), [], ["step 1"], {}, {1: 2}, object(), b"step 1", Program)


def pair_names(many):
    letters = "abcdefghijklmnopqrstuvwxyz"
    return [left + right for left in letters for right in "xyz" if left + right not in ("in", "if")][:many]


def deep(many):
    return "\n".join(["if 1"] * many + ["step 1"] + ["end"] * many)


PLACES = "\n".join(f"{name} = {name}" for name in pair_names(78))

# Each breaks one clause alone.
WRONG_TEXTS = (
    "", "\n", " ", "step 1\n", "\nstep 1", "step 1\n\nstep 1", "step  1", " step 1", "step 1 ", "step 1\r", "step\t1",
    "\n".join(["step 1"] * 401), "take a k", "take a k\ntake b x@1", "out a", "take a k\nout a",
    PLACES + "\na = f b c", PLACES + "\na = b\nout c", "take a k\ntake b k\ntake c k\n" + PLACES,
    "step 1\ntake a k", "take a k\nstep 1\ntake b k", "take a k\ntake a k\nstep 1", "take a k\ntake b k\ntake a x@1\nstep 1",
    "take a x@0\nstep 1", "take a x@4\nstep 1", "take a x@\nstep 1", "take a @1\nstep 1", "take a x@01\nstep 1", "take a\nstep 1",
    "take a k k\nstep 1", "take A k\nstep 1", "take a K\nstep 1", "take a 1\nstep 1", "take if k\nstep 1", "take a in\nstep 1",
    "take a step@1\nstep 1", "take a abcdefghi\nstep 1", "take abcdefghi a\nstep 1", "if 1\ntake a k\nend", "take a ?a\nstep 1",
    "step 0", "step 5", "step -1", "step 01", "step +1", "step", "step 1 1", "step a", "step 10", "step 1\nsteps 1",
    "if 13\nend", "if -1\nend", "if 01\nend", "if\nend", "if 1 1\nend", "if a\nend", "if 100\nend",
    "while 0\nstep 1\nend", "while 13\nstep 1\nend", "while -1\nstep 1\nend", "while\nstep 1\nend", "while 01\nstep 1\nend",
    "while 1\nend", "while 1\nx = y\nend", "while 1\nstep 4\nstep 4\nstep 1\nend", "while 1\nstep 3\nstep 3\nstep 3\nend",
    "while 1\nstep 1\nif 1\nend\nend", "while 1\nstep 1\nwhile 1\nstep 1\nend\nend", "while 1\nstep 1\nelse\nend",
    "while 1\nstep 1\nelse\nstep 1\nend", "if 1\nwhile 1\nstep 1\nelse\nend\nend", "if 1\nelse\nwhile 1\nstep 1\nif 1\nend\nend\nend",
    "else", "step 1\nelse\nend", "if 1\nelse\nelse\nend", "if 1\nend\nelse\nend", "if 1\nelse 1\nend", "if 1\nend 1",
    "end", "step 1\nend", "if 1\nend\nend", "while 1\nstep 1\nend\nend", "if 1", "if 1\nelse", "while 1\nstep 1", "if 1\nif 1\nend",
    deep(4), "if 1\nelse\n" + deep(3) + "\nend", "if 1\nif 1\nelse\nif 1\nif 1\nend\nend\nend\nend",
    "step 1\nout", "step 1\nout a b c d e", "step 1\nout a b c d a", "step 1\nout a\nstep 1", "out a\nstep 1", "step 1\nout a\nout a",
    "step 1\nout A", "step 1\nout a@1", "step 1\nout 1", "step 1\nout end", "if 1\nout a\nend", "if 1\nstep 1\nout a",
    "a = f b\nc = f b b", "a = f b\nif 1\na = f a a a\nend", "while 1\na = f b b\nstep 1\nb = f a\nend",
    "a = f b b b b", "a = f b@1", "a = f 1", "a = f B", "a = F b", "A = f b", "a f b", "a == f b", "= f b", "f a", "a",
    "a = b@1", "a = B", "a = 1", "a = load", "a = if", "if = a", "a = b = c", "a =", "a = abcdefghi", "abcdefghi = a",
    "abcdefghi = f a", "a = abcdefghi b", "a = f abcdefghi", "a = f if", "a = while b", "end = f a",
    "a = load A 5", "a = load A -5", "a = load A +1", "a = load A -0", "a = load A 01", "a = load A", "a = load A 1 1",
    "a = load a 1", "a = load AB 1", "a = load 1 A", "load A 1", "A = load A 1", "a = load A b",
    "store A 5 a", "store A -5 a", "store A +1 a", "store A -0 a", "store A 01 a", "store A 1", "store A 1 a a", "store a 1 a",
    "store AB 1 a", "store A 1 b@1", "store A 1 1", "store A a 1", "store A 1 store", "a = store A 1 b",
    "in k\nstep 1", "# a\nstep 1", "a = b # c", "copy a b", "a = b\nnothing", "take a k\n# a\nstep 1",
)


class ProgramTextTest(unittest.TestCase):
    def test_sample(self):
        program = Program(SUM)
        self.assertEqual(program.text, SUM)
        self.assertEqual(program.lines, tuple(SUM.split("\n")))
        self.assertEqual(program.places, ("k", "s", "x", "y"))
        self.assertEqual(program.arrays, ("A", "B"))
        self.assertEqual(program.words, (("add", 2), ("mul", 2)))
        self.assertEqual(program.outs, ("s",))
        self.assertEqual(program.takes, (("s", "s@1"), ("k", "k")))
        self.assertEqual((str(program), repr(program)), (SUM, "Program(17 lines)"))

    def test_every_kind_of_line(self):
        program = Program(text=EVERY)
        self.assertEqual(program.places, ("a", "b", "d", "q", "w", "y", "z"))
        self.assertEqual(program.arrays, ("C", "Z"))
        self.assertEqual(program.words, (("f", 3), ("g", 1)))
        self.assertEqual(program.outs, ("z", "z", "w", "q"))
        self.assertEqual(program.takes, (("a", "k"), ("b", "x@3"), ("d", "x@1")))
        self.assertEqual(repr(program), f"Program({len(program.lines)} lines)")

    def test_least(self):
        program = Program("step 1")
        self.assertEqual((program.lines, program.places, program.arrays), (("step 1",), (), ()))
        self.assertEqual((program.words, program.outs, program.takes), ((), (), ()))
        self.assertEqual((str(program), repr(program)), ("step 1", "Program(1 lines)"))
        self.assertEqual(Program("store A 0 a").places, ("a",))
        self.assertEqual(Program("take b k\na = load A 0\nout c").places, ("a", "b", "c"))

    def test_equality(self):
        self.assertTrue(Program(SUM) == Program(SUM))
        self.assertFalse(Program(SUM) != Program(SUM))
        for other in (EVERY, SUM.replace("mul", "times"), "step 1"):
            self.assertFalse(Program(SUM) == Program(other))
            self.assertTrue(Program(SUM) != Program(other))
        for thing in NO_STRINGS + ("x = f x", Loop("in x\ny = f x"), Texts()):
            self.assertIs(Program("x = f x") == thing, False)
            self.assertIs(thing == Program("x = f x"), False)
            self.assertIs(Program("x = f x") != thing, True)
        self.assertTrue(Program("step 1"))

    def test_wrong_texts(self):
        for text in WRONG_TEXTS:
            with self.subTest(text=text), self.assertRaises(InvalidText) as caught:
                Program(text)
            self.assertIs(caught.exception.given, text)

    def test_no_strings(self):
        for thing in NO_STRINGS:
            with self.subTest(thing=thing), self.assertRaises(InvalidText) as caught:
                Program(thing)
            self.assertIs(caught.exception.given, thing)

    def test_greatest_that_is_allowed(self):
        wide = "if 1\nelse\n" + deep(2) + "\nend"
        texts = (
            "\n".join(["step 1"] * 400), PLACES + "\na = b", PLACES + "\na = f b b", "take a k\ntake b k\n" + PLACES,
            deep(3), wide, "if 1\nif 1\nif 1\nwhile 1\nstep 1\nend\nelse\nwhile 1\nstep 1\nend\nend\nelse\nif 1\nend\nend\nend",
            "while 12\nstep 4\nstep 4\nend", "while 1\n" + "step 1\n" * 8 + "end", "if 0\nend", "if 12\nelse\nend", "if 1\nend\nif 1\nend",
            "step 4", "a = load A -4\na = load A 4\nstore Z -4 a\nstore Z 4 a", "step 1\nout a b c d", "step 1\nout a a a a",
            "take a k\ntake b k\ntake c x@1\ntake d x@3\nstep 1", "abcdefgh = abcdefgh", "a = abcdefgh b b b", "a = a",
            "take a a\nstep 1", "take a abcdefgh@3\na = b",
        )
        for text in texts:
            with self.subTest(text=text):
                self.assertEqual(Program(text).text, text)

    def test_function_words_spelled_like_places(self):
        for text in ("x = x x", "f = g f\ng = f g", "a = b\nb = b a\na = a b"):
            with self.subTest(text=text):
                self.assertEqual(Program(text).text, text)
        self.assertEqual(Program("f = g f\ng = f g").words, (("f", 1), ("g", 1)))


class ProgramRunTest(unittest.TestCase):
    def check(self, text, count, world):
        end = Program(text).run(count, world)
        told = program_end(text, count, world)
        self.assertIsInstance(end, Outcome)
        self.assertEqual(end.results, told.results)
        self.assertEqual(end.stored, tuple(sorted(told.cells)))
        self.assertEqual(end.loaded, tuple(sorted(told.loaded)))
        self.assertEqual(end.kinds, tuple(told.kinds))
        for array, index in told.touched() | {("A", 0), ("B", -7), ("Y", 10 ** 20)}:
            self.assertEqual(end.value(array, index), told.content(array, index))

    def results(self, text, count):
        return Program(text).run(count, Texts()).results

    def test_sample(self):
        end = Program(SUM).run(2, Texts())
        self.assertEqual(end.results, ("add(add(s@1, mul(A[0], k)), mul(A[1], k))",))
        self.assertEqual(end.loaded, (("A", 0), ("A", 1)))
        self.assertEqual(end.stored, (("B", 0), ("B", 1)))
        self.assertEqual(end.kinds, (4, 2, 2, 0, 2, 3))
        self.assertEqual(end.value("A", -7), "A[-7]")
        self.assertEqual(Program(SUM).run(0, Texts()).kinds, (0, 0, 0, 0, 0, 1))

    def test_against_the_loop(self):
        loop = Loop("in k\nx = load A 0\ny = mul x k\ns = add s@1 y\nstore B 0 s\nout s")
        for count in (0, 1, 2, 3, 7, 400):
            world = Numbers(97, 3)
            self.assertEqual(Program(SUM).run(count, world).results, loop.run(count, world).results)

    def test_rubbish(self):
        self.assertEqual(self.results("a = f b\nb = a\nout a b c c", 0), ("f(?b)", "f(?b)", "?c", "?c"))
        self.assertEqual(Program("store A 1 x").run(0, Texts()).value("A", 1), "?x")
        self.assertEqual(self.results("a = a\nout a", 3), ("?a",))
        self.assertEqual(self.results("take a k\nif 9\nb = a\nend\nout b a", 8), ("?b", "k"))

    def test_copies_to_itself_and_around(self):
        self.assertEqual(self.results("take a k\ntake b c\nt = a\na = b\nb = t\na = a\nout a b t", 0), ("c", "k", "k"))
        ring = "take a p\ntake b q\ntake c r\nwhile 1\nt = a\na = b\nb = c\nc = t\nstep 1\nend\nout a b c"
        told = [self.results(ring, count) for count in range(4)]
        self.assertEqual(told, [("p", "q", "r"), ("q", "r", "p"), ("r", "p", "q"), ("p", "q", "r")])
        self.assertEqual(Program(ring).run(2, Texts()).kinds, (0, 0, 0, 8, 2, 3))

    def test_results_that_stand_twice(self):
        self.assertEqual(self.results("take a k\nb = f a\nout b a b b", 0), ("f(k)", "k", "f(k)", "f(k)"))

    def test_bounds_met_just_so_and_missed_by_one(self):
        text = "take a k\nif 3\na = f a\nelse\na = g a\nend\nout a"
        self.assertEqual([self.results(text, count)[0] for count in (2, 3, 4)], ["g(k)", "f(k)", "f(k)"])
        self.assertEqual([Program(text).run(count, Texts()).kinds for count in (2, 3)], [(1, 0, 0, 0, 0, 1)] * 2)
        text = "take a k\nwhile 3\na = f a\nstep 2\nend\nout a"
        told = ["k", "k", "k", "f(k)", "f(k)", "f(f(k))", "f(f(k))", "f(f(f(k)))"]
        self.assertEqual([self.results(text, count)[0] for count in range(8)], told)
        self.assertEqual([Program(text).run(count, Texts()).kinds[5] for count in range(8)], [1, 1, 1, 2, 2, 3, 3, 4])

    def test_left_below_zero(self):
        text = "take a k\nstep 4\nif 0\na = f a\nelse\na = g a\nend\nwhile 1\na = h a\nstep 4\nend\nstore A 0 a\nout a"
        self.assertEqual(self.results(text, 3), ("g(k)",))
        self.assertEqual(self.results(text, 4), ("f(k)",))
        self.assertEqual(self.results(text, 5), ("h(f(k))",))
        self.assertEqual(Program(text).run(5, Texts()).stored, (("A", 8),))
        self.assertEqual(Program(text).run(5, Texts()).kinds, (2, 0, 1, 0, 2, 3))

    def test_pointer(self):
        text = "step 2\na = load A -1\nstore A 4 a\nstep 4\nb = load A 0\nif 7\nelse\nstore B -4 b\nend\nout b"
        end = Program(text).run(0, Texts())
        self.assertEqual((end.results, end.loaded, end.stored), (("A[1]",), (("A", 1), ("A", 6)), (("A", 6), ("B", 2))))
        self.assertEqual(end.kinds, (0, 2, 2, 0, 2, 1))

    def test_ifs_that_are_empty_or_deep(self):
        text = "take a k\nif 1\nend\nif 0\nelse\nend\nif 1\nif 2\nif 3\na = f a\nend\nelse\na = g a\nend\nelse\na = h a\nend\nout a"
        told = [Program(text).run(count, Texts()) for count in range(4)]
        self.assertEqual([end.results[0] for end in told], ["h(k)", "g(k)", "k", "f(k)"])
        self.assertEqual([end.kinds[5] for end in told], [3, 4, 5, 5])

    def test_every_kind_of_line_at_all_counts(self):
        for count in (0, 1, 2, 3, 4, 5, 7, 11, 12, 13, 15, 16, 19, 20, 399, 400):
            with self.subTest(count=count):
                self.check(EVERY, count, Numbers(999999937, 8))
                self.check(SUM, count, Numbers(2, 0))

    def test_made_programs(self):
        rng = random.Random(6)
        done = 0
        while done < 200:
            text = makers.at_once(makers.some_loop(rng, ("work", "load", "store")), rng.randrange(2, 5), rng.randrange(3))
            for _ in range(rng.randrange(3)):
                text = makers.bent(rng, text)
            try:
                Program(text)
            except InvalidText:
                continue
            done += 1
            with self.subTest(text=text):
                self.check(text, rng.randrange(5), Texts())
                self.check(text, rng.randrange(60), Numbers(10 ** 9, rng.randrange(100)))

    def test_by_place_and_by_name(self):
        program = Program(SUM)
        told = program.run(3, Texts())
        self.assertEqual(program.run(count=3, world=Texts()), told)
        self.assertEqual(program.run(world=Texts(), count=3), told)
        self.assertEqual(program.run(3, world=Texts()), told)

    def test_wrong_counts_and_worlds(self):
        program = Program(SUM)
        for count in WRONG_COUNTS:
            for world in (Texts(), Numbers(97, 3), None, "x"):
                with self.subTest(count=count), self.assertRaises(InvalidNumber) as caught:
                    program.run(count, world)
                self.assertIs(caught.exception.given, count)
        for world in WRONG_WORLDS:
            with self.subTest(world=world), self.assertRaises(NotAWorld) as caught:
                program.run(400, world)
            self.assertIs(caught.exception.given, world)


class ProgramChangeTest(unittest.TestCase):
    WRONG_INDEXES = (-1, 17, 10 ** 39, -10 ** 39, True, False, None, "0", "", (), (0,), [], {}, object())

    def test_without(self):
        program = Program(SUM)
        lines = SUM.split("\n")
        for index in (0, 1, 3, 5, 8, 16):
            told = program.without(index)
            self.assertIsInstance(told, Program)
            self.assertEqual(told.text, "\n".join(lines[:index] + lines[index + 1:]))
            self.assertEqual(program.without(index=index), told)
        self.assertEqual(program.text, SUM)

    def test_without_what_is_needed(self):
        program = Program(SUM)
        for index in (2, 4, 9, 10, 15):
            with self.subTest(index=index), self.assertRaises(InvalidText) as caught:
                program.without(index)
            lines = SUM.split("\n")
            self.assertEqual(caught.exception.given, "\n".join(lines[:index] + lines[index + 1:]))
        for text, index, left in (("step 1", 0, ""), ("take a k\nstep 1\nout a", 1, "take a k\nout a")):
            with self.assertRaises(InvalidText) as caught:
                Program(text).without(index)
            self.assertEqual(caught.exception.given, left)

    def test_put(self):
        program = Program(SUM)
        told = program.put(4, "while 1")
        self.assertEqual(told.text, SUM.replace("while 2", "while 1"))
        self.assertEqual(program.put(index=4, line="while 1"), told)
        self.assertEqual(program.put(line="while 1", index=4), told)
        self.assertEqual(program.put(0, "take s s@2").takes[0], ("s", "s@2"))
        self.assertEqual(program.put(16, "out k").outs, ("k",))
        self.assertEqual(program.text, SUM)

    def test_put_what_is_no_program(self):
        for index, line in ((4, "until 1"), (4, ""), (2, "x = f x"), (9, "s = s"), (5, "y = add x"), (0, "take k k"), (16, "out")):
            with self.subTest(index=index, line=line), self.assertRaises(InvalidText) as caught:
                Program(SUM).put(index, line)
            lines = SUM.split("\n")
            lines[index] = line
            self.assertEqual(caught.exception.given, "\n".join(lines))

    def test_put_what_is_no_line(self):
        lines = ("while 2\nstep 1", "\n", "step 1\n", "\nstep 1", None, True, 0, 1, (), ("step 1",), [], {}, object(), b"step 1")
        for line in lines:
            with self.subTest(line=line), self.assertRaises(InvalidText) as caught:
                Program(SUM).put(4, line)
            self.assertIs(caught.exception.given, line)

    def test_wrong_indexes(self):
        for index in self.WRONG_INDEXES:
            with self.subTest(index=index):
                with self.assertRaises(InvalidNumber) as caught:
                    Program(SUM).without(index)
                self.assertIs(caught.exception.given, index)
                for line in ("while 1", "until", "a\nb", None):
                    with self.assertRaises(InvalidNumber) as caught:
                        Program(SUM).put(index, line)
                    self.assertIs(caught.exception.given, index)


if __name__ == "__main__":
    unittest.main()
