import random
import time
import unittest

import makers
import strange
from plainly import first_wrong_run, shared
from overlapturns.counts import Counts
from overlapturns.errors import InvalidArray, InvalidNumber, InvalidText, NotALoop, NotAProgram, NotRight, OtherOuts, OtherWords
from overlapturns.errors import UnknownInput
from overlapturns.judging import first_wrong
from overlapturns.loops import Loop
from overlapturns.made import ahead, plain, unrolled
from overlapturns.mending import bounds_that_do, needless, offsets_that_do, wrong_distances
from overlapturns.programs import Program
from overlapturns.samples import hasty_program, sample_loop, sample_program
from overlapturns.worlds import Texts

NO_LINES = (-1, 10 ** 39, -10 ** 39, True, False, None, "2", "", (), (2,), [2], {}, object(), Texts(), Counts((2,)))
NO_LETTERS = (None, True, 1, -1, "", "a", "AB", "A ", "1", "@", "[", ("A",), ["A"], {}, object(), Texts(), sample_loop())
NOT_FOR = (UnknownInput, OtherWords, OtherOuts)


def kind_of(line):
    """The kind of a line of a program, told by its words."""
    words = line.split()
    if words[0] in ("if", "while", "else", "end", "take", "out", "store", "step"):
        return words[0]
    return "copy" if len(words) == 3 else "load" if words[2] == "load" else "work"


def lines_of(program, *kinds):
    return [index for index, line in enumerate(program.lines) if kind_of(line) in kinds]


def is_right(loop, text):
    """Whether there is a program that is right at all counts of some runs."""
    try:
        Program(text)
    except InvalidText:
        return False
    return first_wrong_run(loop, text) is None


def lines_put(program, index, line):
    return "\n".join(program.lines[:index] + (line,) + program.lines[index + 1:])


def lines_without(program, index):
    return "\n".join(program.lines[:index] + program.lines[index + 1:])


def swapped(rng, loop, program, times):
    """The program with some lines that stand beside each other changed about, as long as it stays right."""
    for _ in range(times):
        at = rng.randrange(len(program.lines) - 1)
        lines = list(program.lines)
        lines[at:at + 2] = [lines[at + 1], lines[at]]
        try:
            changed = Program("\n".join(lines))
        except InvalidText:
            continue
        if first_wrong(loop, changed) is None:
            program = changed
    return program


def some_pair(rng, kinds, swaps=0):
    """A loop and a program that is right for it."""
    text = makers.some_loop(rng, kinds)
    loop = Loop(text)
    far = max([int(line.split()[-1]) for line in loop.lines if " = load " in line] or [0])
    texts = (
        makers.at_once(text, rng.randrange(2, 5), rng.randrange(3)), makers.begun(text, 3, 2), makers.guarded(text, 3, 5),
        plain(loop).text, unrolled(loop, 2).text, ahead(loop, rng.randrange(1, 4)).text if far < 2 else plain(loop).text,
    )
    return loop, swapped(rng, loop, Program(rng.choice(texts)), swaps)


class NeedlessTest(unittest.TestCase):
    def check(self, loop, program):
        told = needless(Loop(loop), Program(program))
        lines = lines_of(Program(program), "work", "load", "store", "copy")
        expected = tuple(index for index in lines if is_right(loop, lines_without(Program(program), index)))
        self.assertEqual(told, expected)
        return told

    def test_examples_of_the_document(self):
        self.assertEqual(needless(sample_loop(), sample_program()), ())
        with self.assertRaises(NotRight) as caught:
            needless(sample_loop(), hasty_program())
        self.assertEqual((caught.exception.count, caught.exception.where), (1, ("out", 0)))
        self.assertEqual(needless(program=sample_program(), loop=sample_loop()), ())

    def test_lines_that_nobody_asks_for(self):
        loop, program = sample_loop().text, sample_program().text
        for old, new, found in (
            ("x = load A 1\n", "q = load A 1\nx = load A 1\n", (6,)), ("x = load A 1\n", "x = load A 1\nq = load Z 4\n", (7,)),
            ("x = load A 1\n", "x = load A 1\nq = x\n", (7,)), ("x = load A 1\n", "x = load A 1\nq = x\nr = q\n", (7, 8)),
            ("x = load A 1\n", "x = load A 1\nq = other x\n", (7,)), ("if 1\n", "q = rest\nif 1\n", (2,)),
            ("store B 0 s\nstep 1\nend\ny", "store B 0 s\nstore B 0 s\nstep 1\nend\ny", (8, 9)), ("out s", "s = s\nout s", (16,)),
            ("store B 0 s\nstep 1\nend\nout", "store B 0 y\nstore B 0 s\nstep 1\nend\nout", (13,)), ("out s", "q = load A 0\nstore A 0 q\nout s", (17,)),
        ):
            with self.subTest(old=old, new=new):
                self.assertIn(old, program)
                self.assertEqual(self.check(loop, program.replace(old, new, 1)), found)

    def test_lines_of_other_kinds_are_never_told(self):
        loop = "in k\nstore A 0 k"
        program = "take k k\ntake q k\nif 0\nend\nif 1\nelse\nend\nwhile 1\nstore A 0 k\nstep 1\nend\nstep 1"
        self.assertEqual(self.check(loop, program), ())

    def test_lines_without_which_there_is_no_program(self):
        self.assertEqual(self.check("x = load A 0", "take a x@1\na = a"), ())
        self.assertEqual(self.check("x = load A 0", "a = load A 0"), ())
        self.assertEqual(self.check("x = load A 0\nout x", "take a x@1\nwhile 1\na = load A 0\nstep 1\nend\nb = a\nout b"), ())
        self.assertEqual(self.check("x = load A 0", "take a x@1\na = a\na = a"), (1, 2))
        self.assertEqual(self.check("x = load A 0", "a = b\nstep 1"), (0,))
        self.assertEqual(self.check("x = load A 0", "if 1\nb = a\nend"), (1,))

    def test_made_programs(self):
        rng = random.Random(21)
        many = 0
        for _ in range(60):
            loop, program = some_pair(rng, ("work", "work", "load", "store"))
            with self.subTest(loop=loop.text, program=program.text):
                if len(program.lines) < 60:
                    many += len(self.check(loop.text, program.text))
        self.assertGreater(many, 20)


class PutOtherwiseTest(unittest.TestCase):
    def bounds(self, loop, program, index):
        told = bounds_that_do(Loop(loop), Program(program), index)
        word = Program(program).lines[index].split()[0]
        least = 0 if word == "if" else 1
        expected = [bound for bound in range(least, 13) if is_right(loop, lines_put(Program(program), index, f"{word} {bound}"))]
        self.assertEqual(told, tuple(expected))
        return told

    def offsets(self, loop, program, index):
        told = offsets_that_do(Loop(loop), Program(program), index)
        words = Program(program).lines[index].split()
        at = 2 if words[0] == "store" else 4
        expected = []
        for offset in range(-4, 5):
            line = " ".join(words[:at] + [str(offset)] + words[at + 1:])
            if is_right(loop, lines_put(Program(program), index, line)):
                expected.append(offset)
        self.assertEqual(told, tuple(expected))
        return told

    def test_examples_of_the_document(self):
        loop, program = sample_loop(), sample_program()
        self.assertEqual(bounds_that_do(loop, hasty_program(), 4), (2,))
        self.assertEqual(bounds_that_do(loop, program, 2), (1,))
        self.assertEqual(offsets_that_do(loop, program, 6), (1,))
        self.assertEqual(bounds_that_do(index=4, program=program, loop=loop), (2,))
        self.assertEqual(offsets_that_do(index=8, program=program, loop=loop), (0,))

    def test_bounds_of_all_kinds(self):
        loop = "in k\nstore A 0 k"
        turn = "store A 0 k\nstep 1\n"
        self.assertEqual(self.bounds(loop, f"take k k\nwhile 1\n{turn}end", 1), (1,))
        self.assertEqual(self.bounds(loop, f"take k k\nwhile 5\n{turn}end\nwhile 1\n{turn}end", 1), tuple(range(1, 13)))
        self.assertEqual(self.bounds(loop, f"take k k\nwhile 3\n{turn}{turn}end\nwhile 1\n{turn}end", 1), tuple(range(2, 13)))
        self.assertEqual(self.bounds(loop, f"take k k\nif 0\nwhile 1\n{turn}end\nend", 1), (0, 1))
        self.assertEqual(self.bounds(loop, f"take k k\nif 7\nwhile 1\n{turn}end\nelse\nwhile 1\n{turn}end\nend", 1), tuple(range(13)))
        self.assertEqual(self.bounds(loop, f"take k k\nwhile 1\n{turn}end\nif 0\nelse\nstore B 0 k\nend", 5), (0,))
        self.assertEqual(self.bounds(loop, f"take k k\nwhile 2\n{turn}end\nif 3\n{turn}end", 1), (1,))
        self.assertEqual(self.bounds(loop, f"take k k\nwhile 2\n{turn}end\nif 3\nstore B 0 k\nend", 5), ())
        self.assertEqual(self.bounds(loop, f"take k k\nwhile 2\n{turn}end\nif 3\n{turn}end", 5), (1,))

    def test_offsets_of_all_kinds(self):
        loop = "in k\nx = load A 1\nstore B -2 x\nstore C 0 k"
        program = "take k k\nwhile 1\nx = load A 1\nq = load B 3\nstore B -2 x\nstore C 0 k\nstep 1\nend\nq = load C 0\nstore C 0 q"
        self.assertEqual(self.offsets(loop, program, 2), (1,))
        self.assertEqual(self.offsets(loop, program, 3), tuple(range(-4, 5)))
        self.assertEqual(self.offsets(loop, program, 4), (-2,))
        self.assertEqual(self.offsets(loop, program, 5), (0,))
        self.assertEqual(self.offsets(loop, program.replace("store C 0 k", "store C 4 k"), 5), (0,))
        self.assertEqual(self.offsets(loop, program.replace("store B -2 x", "store B -2 k"), 2), ())
        self.assertEqual(self.offsets(loop, program, 8), (0,))
        self.assertEqual(self.offsets(loop, program, 9), (0,))

    def test_made_programs(self):
        rng = random.Random(22)
        found = set()
        done = 0
        while done < 40:
            loop, program = some_pair(rng, ("work", "load", "store"))
            text = program.text if done % 2 else makers.bent(rng, program.text)
            if len(program.lines) > 40:
                continue
            try:
                first_wrong(loop, Program(text))
            except (InvalidText,) + NOT_FOR:
                continue
            done += 1
            with self.subTest(loop=loop.text, program=text):
                for index in lines_of(Program(text), "if", "while"):
                    found.add(len(self.bounds(loop.text, text, index)))
                for index in lines_of(Program(text), "load", "store")[:4]:
                    found.add(len(self.offsets(loop.text, text, index)))
        self.assertLessEqual({0, 1, 9}, found)


class DistancesTest(unittest.TestCase):
    def check(self, loop, program, one="A", other="B", most=12):
        told = wrong_distances(Loop(loop), Program(program), one, other)
        expected = []
        for distance in range(-most, most + 1):
            texts = [shared(text, one, other, distance) for text in (loop, program)]
            if first_wrong_run(*texts) is not None:
                expected.append(distance)
        self.assertEqual(told, tuple(expected))
        turned = wrong_distances(Loop(loop), Program(program), other, one)
        self.assertEqual(turned, tuple(-distance for distance in reversed(told)))
        return told

    def test_example_of_the_document(self):
        loop, program = sample_loop(), sample_program()
        self.assertEqual(wrong_distances(loop, program, "A", "B"), (1,))
        self.assertEqual(wrong_distances(other="A", one="B", program=program, loop=loop), (-1,))
        self.check(loop.text, program.text)

    def test_cells_fetched_ahead(self):
        loop = "x = load A 0\ny = f x\nstore B 0 y"
        for turns in (1, 2, 3):
            program = ahead(Loop(loop), turns).text
            # In the turn that fetches them, what stands there is stored before.
            self.assertEqual(self.check(loop, program), tuple(range(1, turns)))
            self.assertEqual(self.check(loop.replace("B 0", "B -2"), program.replace("B 0", "B -2"), most=9), tuple(range(3, turns + 2)))
        self.assertEqual(self.check(loop, plain(Loop(loop)).text), ())
        before = "if 1\nx = load A 0\nend\nwhile 2\ny = f x\nx = load A 1\nstore B 0 y\nstep 1\nend\nif 1\ny = f x\nstore B 0 y\nend"
        self.assertEqual(self.check(loop, before), (1,))

    def test_several_loads_before_several_stores(self):
        loop = "x = load A 0\nstore B 0 x"
        at_once = "a = load A 0\nb = load A 1\nc = load A 2\nd = load A 3\nstore B 0 a\nstore B 1 b\nstore B 2 c\nstore B 3 d\nstep 4"
        program = f"while 4\n{at_once}\nend\nwhile 1\na = load A 0\nstore B 0 a\nstep 1\nend"
        self.assertEqual(self.check(loop, program), (1, 2, 3))
        self.assertEqual(self.check(loop, program.replace("while 4", "if 12\nelse\nend\nwhile 12")), (1, 2, 3))
        turned = at_once.replace("store B 0 a\nstore B 1 b", "store B 1 b\nstore B 0 a")
        self.assertEqual(self.check(loop, program.replace(at_once, turned)), (1, 2, 3))

    def test_stores_in_another_order(self):
        loop = "in k c\nstore A 0 k\nstore B 0 c"
        turn = "take k k\ntake c c\nwhile 1\nstore B 0 c\nstore A 0 k\nstep 1\nend"
        self.assertEqual(self.check(loop, turn), (0,))
        later = "take k k\ntake c c\nif 1\nstore A 0 k\nend\nwhile 2\nstore A 1 k\nstore B 0 c\nstep 1\nend\nif 1\nstore B 0 c\nend"
        self.assertEqual(self.check(loop, later), (1,))

    def test_ends_of_what_is_reached(self):
        loop = "in k\nx = load A {}\nstore B {} k\nout x"
        for near, far in ((4, -4), (-4, 4), (4, 4), (-3, 2)):
            text = loop.format(near, far)
            program = f"take k k\ntake x x@1\nwhile 1\nstore B {far} k\nx = load A {near}\nstep 1\nend\nout x"
            self.assertEqual(self.check(text, program), (near - far,))

    def test_only_at_great_counts(self):
        loop = "x = load A 0\nstore B 0 x"
        turn = "x = load A 0\nstore B 0 x\nstep 1\n"
        program = f"while 12\n{turn}end\nif 11\nx = load A 0\ny = load A 1\nstore B 0 x\nstore B 1 y\nstep 2\nend\nwhile 1\n{turn}end"
        self.assertEqual(self.check(loop, program), (1,))
        # Wrong at the count 5 and at no other one.
        program = f"if 5\nif 6\nelse\nx = load A 4\nstore B 4 x\nend\nend\nwhile 1\n{turn}end"
        self.assertEqual(self.check(loop, program), (-4, -3, -2, -1))
        loop = "in k\nx = load A 4\nstore B -4 x\nstore C 0 k"
        turn = "x = load A 4\nstore B -4 x\nstore C 0 k\nstep 1\n"
        program = f"take k k\nif 12\nx = load A 4\ny = load C 3\nend\nwhile 12\nx = load A 4\nstore C 0 k\nstore B -4 x\nstep 1\nend\nwhile 1\n{turn}end"
        self.check(loop, program, "A", "C")
        self.check(loop, program, "B", "C")
        self.assertEqual(self.check(loop, program.replace("store C 0 k\nstore B -4 x", "store B -4 x\nx = load A 4\nstore C 0 k")), ())

    def test_far_from_zero_and_at_great_counts_alone(self):
        loop = "in k\nx = load A 4\nstore B -4 k\nstore C 0 x"
        turn = "x = load A 4\nstore B -4 k\nstore C 0 x\nstep 1\n"
        other = "store B -4 k\nx = load A 4\nstore C 0 x\nstep 1\n"
        for turns in (1, 8, 12):
            ahead_of_it = f"if 12\n{turn * turns}if 12\n{turn * turns}if 12\n{other}end\nend\nend\n"
            program = f"take k k\n{ahead_of_it}while 1\n{turn}end"
            self.assertEqual(self.check(loop, program, most=10), (8,))
            self.assertEqual(self.check(loop, program, "C", "B", most=10), ())
            error = first_wrong_run(*[shared(text, "A", "B", 8) for text in (loop, program)])
            self.assertEqual(error, (12 + 2 * turns, ("cell", "C", 2 * turns)))

    def test_arrays_that_do_not_stand_there(self):
        loop, program = sample_loop().text, sample_program().text
        for one, other in (("C", "D"), ("A", "Z"), ("Z", "A"), ("B", "C")):
            self.assertEqual(self.check(loop, program, one, other, 3), ())
        back = program.replace("out s", "q = load C 0\nr = load C 2\nstore C 0 r\nstore C 0 q\nout s")
        self.assertEqual(self.check(loop, back, "B", "C", 9), ())
        # A load beyond the loop's ones, of what is put back too late.
        late = program.replace("while 2\n", "q = load C 0\nwhile 2\n").replace("out s", "if 0\nstep 1\nend\nout s").replace("x = load A 0\n", "x = load A 0\nq = load C 1\n")
        self.assertEqual(self.check(loop, late, "B", "C", 3), ())
        late = program.replace("if 1\n", "if 1\nq = load C 0\nstore C 0 q\nr = load C 1\n", 1)
        self.assertEqual(self.check(loop, late, "B", "C", 5), ())
        held = program.replace("y = mul x k\nx = load A 1\n", "q = load C 0\ny = mul x k\nx = load A 1\n").replace("step 1\nend\ny", "store C 0 q\nstep 1\nend\ny")
        self.assertEqual(self.check(loop, held, "B", "C", 9), (0,))
        self.assertEqual(self.check("in k\nstore A 0 k\nstore B 1 k", "take k k\nwhile 1\nstore B 1 k\nstore A 0 k\nstep 1\nend", "A", "B", 9), ())
        alone = "take k k\nwhile 1\nq = load C 1\nstore A 0 k\nstore C 1 q\nstep 1\nend"
        self.assertEqual(self.check("in k\nstore A 0 k", alone, "A", "C", 9), (-1,))

    def test_made_programs(self):
        rng = random.Random(23)
        found = set()
        for at in range(45):
            kinds = (("load", "store"), ("work", "load", "store"), ("load", "store", "store", "work"))[at % 3]
            loop, program = some_pair(rng, kinds, 20)
            one, other = rng.sample("ABC", 2)
            with self.subTest(loop=loop.text, program=program.text, one=one, other=other):
                found.update(self.check(loop.text, program.text, one, other, 9))
        self.assertGreater(len(found), 5)


class WrongInputsTest(unittest.TestCase):
    DEEDS = (
        needless, lambda loop, program: bounds_that_do(loop, program, 0), lambda loop, program: offsets_that_do(loop, program, 0),
        lambda loop, program: wrong_distances(loop, program, "a", "a"),
    )

    def test_no_loops_and_no_programs(self):
        for deed in self.DEEDS:
            for given in strange.NO_LOOPS:
                with self.subTest(given=given), self.assertRaises(NotALoop) as caught:
                    deed(given, None)
                self.assertIs(caught.exception.given, given)
            for given in strange.NO_PROGRAMS:
                with self.subTest(given=given), self.assertRaises(NotAProgram) as caught:
                    deed(sample_loop(), given)
                self.assertIs(caught.exception.given, given)

    def test_indexes_of_no_such_line(self):
        loop, program = sample_loop(), hasty_program()
        for deed, kinds in ((bounds_that_do, ("if", "while")), (offsets_that_do, ("load", "store"))):
            others = [index for index in range(len(program.lines) + 3) if index not in lines_of(program, *kinds)]
            for given in NO_LINES + tuple(others):
                for other in (program, Program("take a q\na = b")):
                    with self.subTest(given=given), self.assertRaises(InvalidNumber) as caught:
                        deed(loop, other, given)
                    self.assertIs(caught.exception.given, given)

    def test_no_letters(self):
        for program in (sample_program(), hasty_program(), Program("take a q\na = b")):
            for given in NO_LETTERS:
                for other in ("A", given, None):
                    with self.subTest(given=given), self.assertRaises(InvalidArray) as caught:
                        wrong_distances(sample_loop(), program, given, other)
                    self.assertIs(caught.exception.given, given)
                with self.subTest(given=given), self.assertRaises(InvalidArray) as caught:
                    wrong_distances(sample_loop(), program, "A", given)
                self.assertIs(caught.exception.given, given)
            for letter in "ABZ":
                with self.assertRaises(InvalidArray) as caught:
                    wrong_distances(sample_loop(), program, letter, letter)
                self.assertEqual(caught.exception.given, letter)

    def test_programs_that_are_not_for_the_loop(self):
        for text, kind, given in strange.UNFIT:
            index = len(text.split("\n"))
            longer = Program(text.replace("\nout", "\nif 1\nend\nx = load A 0\nout") if "\nout" in text else text + "\nif 1\nend\nx = load A 0")
            index = longer.lines.index("if 1")
            for deed in (
                lambda: needless(strange.LOOP, longer), lambda: bounds_that_do(strange.LOOP, longer, index),
                lambda: offsets_that_do(strange.LOOP, longer, index + 2), lambda: wrong_distances(strange.LOOP, longer, "A", "B"),
            ):
                with self.subTest(text=text), self.assertRaises(kind) as caught:
                    deed()
                self.assertEqual(caught.exception.given, given)

    def test_programs_that_are_not_right(self):
        loop = sample_loop()
        for at, line in ((4, "while 1"), (4, "while 3"), (6, "x = load A 2"), (8, "store B 1 s"), (0, "take s s@2"), (2, "if 2")):
            wrong = sample_program().put(at, line)
            for deed in (lambda: needless(loop, wrong), lambda: wrong_distances(loop, wrong, "A", "B"), lambda: wrong_distances(loop, wrong, "X", "Y")):
                with self.subTest(line=line), self.assertRaises(NotRight) as caught:
                    deed()
                self.assertEqual((caught.exception.count, caught.exception.where), first_wrong(loop, wrong))


class SoonTest(unittest.TestCase):
    def test_long_ones_are_told_within_seconds(self):
        eight = "in k\n" + "\n".join(f"{name} = f {name}@3 {other}@{1 + at % 3} k" for at, (name, other) in enumerate(zip("abcdefgh", "bcdefgha")))
        cells = "\n".join(f"{name} = load A {at}\nstore {array} {1 - at} {name}" for at, (name, array) in enumerate(zip("wxyz", "BCDE")))
        for text in (eight + "\nout a h", cells + "\nout w z"):
            loop = Loop(text)
            for program in (plain(loop), unrolled(loop, 4), Program(makers.begun(text, 3, 2)), Program(makers.at_once(text, 4, 1))):
                begun = time.perf_counter()
                needless(loop, program)
                wrong_distances(loop, program, "A", "B")
                for index in lines_of(program, "if", "while"):
                    bounds_that_do(loop, program, index)
                for index in lines_of(program, "load", "store")[:8]:
                    offsets_that_do(loop, program, index)
                self.assertLess(time.perf_counter() - begun, 20)


if __name__ == "__main__":
    unittest.main()
