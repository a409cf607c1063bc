import random
import time
import unittest
import unittest.mock

import makers
import strange
from plainly import loop_end, program_end
from overlapturns.checker import accepts
from overlapturns.errors import InvalidNumber, InvalidText, NotALoop, NotAProgram, OtherOuts, OtherWords, UnknownInput
from overlapturns.judging import first_wrong
from overlapturns.loops import Loop
from overlapturns.made import plain, unrolled
from overlapturns.papers import paper_of_beyond, paper_of_needed, paper_of_wrong
from overlapturns.programs import Program
from overlapturns.samples import hasty_program, sample_loop, sample_program
from overlapturns.touching import first_beyond
from overlapturns.worlds import Numbers, Texts

MODULUS = 999999937
NO_LINES = (-1, 10 ** 39, -10 ** 39, True, False, None, "5", "", (), (5,), [5], {}, object(), Texts())


def value_at(end, where):
    return end.results[where[1]] if where[0] == "out" else end.content(where[1], where[2])


def first_seed(loop, program, count, where):
    """The first seed of a world that shows that both end with unlike values there, None if there is none below 100."""
    for seed in range(100):
        world = Numbers(MODULUS, seed)
        if value_at(loop_end(loop, count, world), where) != value_at(program_end(program, count, world), where):
            return seed
    return None


def kind_of(line):
    words = line.split()
    if words[0] in ("if", "while", "else", "end", "take", "out", "step"):
        return None
    return words[0]


def late(count):
    """A loop and a program whose least wrong count is this one, of 12 or more."""
    turn = "x = f r\nr = x\nstep 1\n"
    blocks = f"if 12\n{turn * 12}end\n" * (count // 12 - 1)
    last = f"if 12\n{turn * 12}if {count % 12}\nr = g r\nend\nend\n"
    return "x = f x@1\nout x", f"take r x@1\n{blocks}{last}while 1\n{turn}end\nout r"


class PapersTest(unittest.TestCase):
    def paper(self, made, claim, paper):
        self.assertEqual(made, (claim, paper))
        self.assertIsInstance(made, tuple)
        self.assertIs(accepts(made[0], made[1]), True)

    def wrong(self, loop, program):
        """Compare with the least wrong count and runs; return the count that is claimed."""
        made = paper_of_wrong(Loop(loop), Program(program))
        first = first_wrong(Loop(loop), Program(program))
        seed = None if first is None or first[0] > 60 else first_seed(loop, program, *first)
        if seed is None:
            self.assertIsNone(made)
            return None
        self.paper(made, ("wrong", loop, program) + first, (MODULUS, seed))
        return first[0]

    def needed(self, loop, program, index):
        made = paper_of_needed(Loop(loop), Program(program), index)
        try:
            shorter = Program(program).without(index)
        except InvalidText:
            self.assertIsNone(made)
            return None
        first = first_wrong(Loop(loop), shorter)
        seed = None if first is None or first[0] > 60 else first_seed(loop, shorter.text, *first)
        if seed is None:
            self.assertIsNone(made)
            return None
        self.paper(made, ("needed", loop, program, index), first + (MODULUS, seed))
        return first[0]

    def test_examples_of_the_document(self):
        loop, program, hasty = sample_loop(), sample_program(), hasty_program()
        made = [paper_of_wrong(loop, hasty), paper_of_beyond(loop, hasty), paper_of_needed(loop, program, 5)]
        told = [made[0][0][3:], made[1][0][3:], made[2][0][3:], paper_of_wrong(loop, program), paper_of_beyond(loop, program)]
        self.assertEqual(told, [(1, ("out", 0)), (1, "A", 1), (5,), None, None])
        told = [accepts(made[0][0], made[0][1]), accepts(made[1][0], made[1][1]), accepts(made[2][0], made[2][1]), accepts(made[1][0], None)]
        self.assertEqual(told, [True, True, True, False])
        self.paper(made[1], ("beyond", loop.text, hasty.text, 1, "A", 1), ())

    def test_by_name(self):
        loop, program, hasty = sample_loop(), sample_program(), hasty_program()
        self.assertEqual(paper_of_wrong(program=hasty, loop=loop), paper_of_wrong(loop, hasty))
        self.assertEqual(paper_of_beyond(program=hasty, loop=loop), paper_of_beyond(loop, hasty))
        self.assertEqual(paper_of_needed(index=5, program=program, loop=loop), paper_of_needed(loop, program, 5))

    def test_what_is_right_has_no_paper(self):
        for program in (sample_program(), plain(sample_loop()), unrolled(sample_loop(), 3)):
            self.assertIsNone(paper_of_wrong(sample_loop(), program))
            self.assertIsNone(paper_of_beyond(sample_loop(), program))

    def test_results_and_cells(self):
        loop, program = sample_loop().text, sample_program().text
        for old, new, count in (
            ("take s s@1", "take s s@2", 0), ("store B 0 s", "store B -1 s", 1), ("store B 0 s", "store Z 0 s", 1), ("while 2", "while 3", 2),
            ("mul x k", "mul k x", 1), ("s = add s y\nstore B 0 s\nstep 1\nend\ny", "s = add s y\nstore B 0 k\nstep 1\nend\ny", 2),
        ):
            with self.subTest(old=old, new=new):
                self.assertIn(old, program)
                self.assertEqual(self.wrong(loop, program.replace(old, new)), count)

    def test_counts_up_to_sixty(self):
        for count in (13, 24, 25, 36, 47, 48, 59, 60, 61, 72, 100):
            loop, program = late(count)
            self.assertEqual(first_wrong(Loop(loop), Program(program)), (count, ("out", 0)))
            self.assertEqual(self.wrong(loop, program), count if count <= 60 else None)

    def test_beyond_up_to_sixty(self):
        for steps in (1, 14, 15, 16, 40):
            for offset in (-4, -3, -1, 0):
                text = "step 4\n" * steps + f"if {1 - offset}\nx = load B {offset}\nend"
                first = (4 * steps + 1 - offset, "B", 4 * steps + offset)
                loop = "x = load A 0"
                self.assertEqual(first_beyond(Loop(loop), Program(text)), first)
                made = paper_of_beyond(Loop(loop), Program(text))
                if first[0] <= 60:
                    self.paper(made, ("beyond", loop, text) + first, ())
                else:
                    self.assertIsNone(made)

    def test_the_first_world_that_shows_it(self):
        # Both words have the same code in the world with the seed 0, and in that one alone.
        loop = "in k\nx = dqctaa k\nout x"
        program = "take k k\ntake x x@1\nwhile 1\nx = aaaav k\nstep 1\nend\nout x"
        self.assertEqual([Numbers(MODULUS, seed).known("dqctaa") == Numbers(MODULUS, seed).known("aaaav") for seed in (0, 1)], [True, False])
        self.assertEqual(paper_of_wrong(Loop(loop), Program(program))[1], (MODULUS, 1))
        self.assertEqual(self.wrong(loop, program), 1)
        twice = program.replace("step 1", "x = dqctaa k\nstep 1")
        self.assertEqual(paper_of_needed(Loop(loop), Program(twice), 4)[1], (1, ("out", 0), MODULUS, 1))
        self.assertEqual(self.needed(loop, twice, 4), 1)

    def test_worlds_that_are_asked(self):
        with unittest.mock.patch("overlapturns.papers.is_unlike_in", return_value=False) as asked:
            self.assertIsNone(paper_of_wrong(sample_loop(), hasty_program()))
        self.assertEqual([call.args[0] for call in asked.call_args_list], [Numbers(MODULUS, seed) for seed in range(100)])

    def test_no_world_shows_it(self):
        # Both words have the same code in all worlds with this modulus.
        loop = "in k\nx = eauaaa k\nout x"
        program = "take k k\ntake x x@1\nwhile 1\nx = azazup k\nstep 1\nend\nout x"
        self.assertEqual(first_wrong(Loop(loop), Program(program)), (1, ("out", 0)))
        self.assertIsNone(self.wrong(loop, program))
        self.assertIsNone(self.needed(loop, program.replace("step 1", "x = eauaaa k\nstep 1"), 4))

    def test_lines_that_are_needed(self):
        for loop, program in (
            (sample_loop().text, sample_program().text), (sample_loop().text, plain(sample_loop()).text), (sample_loop().text, hasty_program().text),
            (sample_loop().text, sample_program().text.replace("step 1\nend\ny", "q = s\nstore Z 0 q\nstep 1\nend\ny")),
            ("in k\nstore A 0 k", "take k k\nstore A 0 k"), ("in k\nstore A 0 k", "take k k\nwhile 1\nstore A 0 k\nstep 1\nend\nq = load A 0\nstore A 0 q"),
        ):
            found = []
            for index, line in enumerate(program.split("\n")):
                if kind_of(line) is None:
                    continue
                with self.subTest(program=program, index=index):
                    found.append(self.needed(loop, program, index))
            self.assertGreater(len(found), 0)

    def test_lines_that_can_be_left_out(self):
        program = sample_program().text.replace("out s", "q = s\nout s")
        self.assertIsNone(self.needed(sample_loop().text, program, program.split("\n").index("q = s")))

    def test_the_only_statement(self):
        self.assertIsNone(self.needed("x = f x@1", "take a x@1\na = a", 1))
        self.assertIsNone(self.needed("in k\nstore A 0 k", "take k k\nstore A 0 k", 1))

    def test_needed_at_great_counts(self):
        loop = "in k\nstore A 0 k"
        turn = "store A 0 k\nstep 1\n"
        for many in (3, 4, 5):
            begun = f"if 12\n{turn * 12}end\n" * many
            program = f"take k k\n{begun}if 12\nstore A 0 k\nstep 1\nend\nwhile 1\n{turn}end"
            index = len(f"take k k\n{begun}".split("\n"))
            self.assertEqual(program.split("\n")[index], "store A 0 k")
            self.assertEqual(self.needed(loop, program, index), 12 * many + 12 if many < 5 else None)

    def test_made_programs(self):
        rng = random.Random(71)
        claimed = []
        while len(claimed) < 60:
            loop = makers.some_loop(rng, ("work", "load", "store"))
            text = makers.bent(rng, rng.choice((makers.plain(loop), makers.at_once(loop, 2, 0), makers.guarded(loop, 2, 3))))
            try:
                first = first_beyond(Loop(loop), Program(text))
            except (InvalidText, UnknownInput, OtherWords, OtherOuts):
                continue
            with self.subTest(loop=loop, program=text):
                claimed.append(self.wrong(loop, text))
                made = paper_of_beyond(Loop(loop), Program(text))
                if first is None:
                    self.assertIsNone(made)
                else:
                    self.paper(made, ("beyond", loop, text) + first, ())
                lines = text.split("\n")
                index = rng.choice([at for at, line in enumerate(lines) if kind_of(line)] or [None])
                if index is not None:
                    self.needed(loop, text, index)
        self.assertGreater(len(claimed) - claimed.count(None), 25)
        self.assertGreater(claimed.count(None), 5)


class WrongInputsTest(unittest.TestCase):
    def test_no_loops_and_no_programs(self):
        for deed in (paper_of_wrong, paper_of_beyond, lambda loop, program: paper_of_needed(loop, program, -1)):
            for given in strange.NO_LOOPS:
                with self.subTest(given=given), self.assertRaises(NotALoop) as caught:
                    deed(given, None)
                self.assertIs(caught.exception.given, given)
            for given in strange.NO_PROGRAMS:
                with self.subTest(given=given), self.assertRaises(NotAProgram) as caught:
                    deed(sample_loop(), given)
                self.assertIs(caught.exception.given, given)

    def test_programs_that_are_not_for_the_loop(self):
        for text, kind, given in strange.UNFIT:
            index = next(at for at, line in enumerate(text.split("\n")) if kind_of(line))
            for deed in (paper_of_wrong, paper_of_beyond, lambda loop, program: paper_of_needed(loop, program, index)):
                with self.subTest(text=text), self.assertRaises(kind) as caught:
                    deed(strange.LOOP, Program(text))
                self.assertEqual(caught.exception.given, given)
            with self.assertRaises(InvalidNumber) as caught:
                paper_of_needed(strange.LOOP, Program(text), 400)
            self.assertEqual(caught.exception.given, 400)

    def test_indexes_below_zero_where_the_last_line_could_be_left_out(self):
        with self.assertRaises(InvalidNumber):
            paper_of_needed(Loop("x = f x@1"), Program("step 1\na = b"), -1)

    def test_indexes_of_no_such_line(self):
        program = sample_program()
        others = [at for at in range(len(program.lines) + 2) if at >= len(program.lines) or kind_of(program.lines[at]) is None]
        for given in NO_LINES + tuple(others):
            with self.subTest(given=given), self.assertRaises(InvalidNumber) as caught:
                paper_of_needed(sample_loop(), program, given)
            self.assertIs(caught.exception.given, given)


class SoonTest(unittest.TestCase):
    def test_long_ones_are_told_within_seconds(self):
        text = "in k\n" + "\n".join(f"{name} = f {name}@3 {other}@2 k" for name, other in zip("abcdefgh", "bcdefgha")) + "\nout a h"
        loop = Loop(text)
        for program in (plain(loop), unrolled(loop, 4)):
            begun = time.perf_counter()
            paper_of_wrong(loop, program)
            paper_of_beyond(loop, program)
            for index, line in enumerate(program.lines):
                if kind_of(line):
                    paper_of_needed(loop, program, index)
            self.assertLess(time.perf_counter() - begun, 20)


if __name__ == "__main__":
    unittest.main()
