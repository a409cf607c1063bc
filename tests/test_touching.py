import random
import time
import unittest

import makers
import strange
from plainly import Numbered, loop_end, program_end
from overlapturns.errors import InvalidText, NotALoop, NotAProgram, OtherOuts, OtherWords, UnknownInput
from overlapturns.loops import Loop
from overlapturns.programs import Program
from overlapturns.samples import hasty_program, sample_loop, sample_program
from overlapturns.touching import first_beyond, reach


def touched_by(text, count):
    return program_end(text, count, Numbered()).touched()


def beyond_by_runs(loop, program, most):
    for count in range(most + 1):
        cells = touched_by(program, count) - loop_end(loop, count, Numbered()).touched()
        if cells:
            return (count,) + min(cells)
    return None


def reach_by_runs(program, most):
    told = {array: (None, None) for array in Program(program).arrays}
    for count in range(most + 1):
        for array, index in touched_by(program, count):
            least, greatest = told[array]
            if least is None:
                least, greatest = index, index - count
            told[array] = (min(least, index), max(greatest, index - count))
    return tuple((array,) + told[array] for array in sorted(told))


class TouchingTest(unittest.TestCase):
    def beyond(self, loop, program, most=50):
        told = first_beyond(Loop(loop), Program(program))
        self.assertEqual(told, beyond_by_runs(loop, program, most))
        return told

    def reached(self, program, most=50):
        told = reach(Program(program))
        self.assertEqual(told, reach_by_runs(program, most))
        return told

    def test_examples_of_the_document(self):
        loop = sample_loop()
        self.assertIsNone(first_beyond(loop, sample_program()))
        self.assertEqual(first_beyond(loop, hasty_program()), (1, "A", 1))
        self.assertEqual(reach(sample_program()), (("A", 0, -1), ("B", 0, -1)))
        self.assertEqual(reach(hasty_program()), (("A", 0, 0), ("B", 0, 0)))
        self.assertEqual(first_beyond(program=hasty_program(), loop=loop), (1, "A", 1))
        self.assertEqual(reach(program=hasty_program()), (("A", 0, 0), ("B", 0, 0)))

    def test_loads_and_stores_to_both_sides(self):
        loop = "in k\nx = load A -2\ny = load A 3\nstore B 1 k"
        good = "take k k\nwhile 1\nx = load A -2\ny = load A 3\nstore B 1 k\nstep 1\nend"
        self.assertIsNone(self.beyond(loop, good))
        self.assertEqual(self.reached(good), (("A", -2, 2), ("B", 1, 0)))
        for old, new, first in (
            ("load A -2", "load A -3", (1, "A", -3)), ("load A 3", "load A 4", (1, "A", 4)), ("store B 1", "store B 0", (1, "B", 0)),
            ("store B 1", "store B 2", (1, "B", 2)), ("store B 1", "store A 0", (1, "A", 0)), ("load A 3", "load C 0", (1, "C", 0)),
            ("load A 3", "load B 1", None), ("load A 3", "load A 2", (1, "A", 2)), ("load A -2", "load A 0", (1, "A", 0)),
            ("store B 1", "store B 2 k\nstore A -4", (1, "A", -4)), ("load A 3", "load A -1", (1, "A", -1)),
        ):
            with self.subTest(old=old, new=new):
                self.assertEqual(self.beyond(loop, good.replace(old, new)), first)
                self.reached(good.replace(old, new))

    def test_gaps_of_short_runs(self):
        loop = "x = load A -4\ny = load A 4"
        for index, count in ((-3, 2), (-1, 4), (0, 5), (2, 7), (3, 8)):
            for first in (1, count - 1, count, count + 1):
                program = f"if {first}\nx = load A {index}\nend"
                with self.subTest(index=index, first=first):
                    self.assertEqual(self.beyond(loop, program), (first, "A", index) if first < count else None)

    def test_ahead_of_and_behind_whiles(self):
        loop = "x = load A 0"
        self.assertEqual(self.beyond(loop, "x = load A 0\nwhile 1\nstep 1\nend"), (0, "A", 0))
        self.assertIsNone(self.beyond(loop, "if 1\nx = load A 0\nend\nwhile 1\nstep 1\nend"))
        self.assertEqual(self.beyond(loop, "while 1\nx = load A 0\nstep 1\nend\nx = load A 0"), (0, "A", 0))
        self.assertEqual(self.beyond(loop, "while 1\nx = load A 0\nstep 1\nend\nx = load A -1"), (0, "A", -1))
        self.assertIsNone(self.beyond(loop, "while 1\nx = load A 0\nstep 1\nend\nif 0\nelse\nx = load A 4\nend"))
        self.assertEqual(self.beyond(loop, "while 2\nx = load A 0\nx = load A 1\nstep 2\nend\nif 1\nx = load A 1\nend"), (1, "A", 1))
        self.assertEqual(self.beyond(loop, "while 3\nx = load A 2\nstep 4\nend\nif 0\nelse\nx = load A -1\nend"), (3, "A", 3))
        self.assertEqual(self.reached("while 3\nx = load A 2\nstep 4\nend\nif 0\nelse\nx = load A -1\nend"), (("A", 2, 0),))
        self.assertEqual(self.reached("while 12\nstep 4\nstep 4\nend\nx = load A -4\nstep 4\nx = load A 4"), (("A", -4, 8),))

    def test_left_overs_of_great_steps(self):
        loop = "x = load A 0"
        for times in range(1, 9):
            loads = "".join(f"x = load A {at % 4}\n" + ("step 4\n" if at == 3 else "") for at in range(times))
            stepped = times - (4 if times > 3 else 0)
            body = loads + (f"step {stepped}\n" if 0 < stepped < 4 else "step 4\n" if stepped == 4 else "")
            for bound in range(1, times + 2):
                program = f"while {bound}\n{body}end"
                told = self.beyond(loop, program)
                self.assertEqual(told, (bound, "A", bound) if bound < times else None)
                self.reached(program)

    def test_lines_gone_through_at_no_count_or_at_few(self):
        self.assertEqual(self.reached("if 3\nelse\nif 3\nx = load A 0\nend\nend"), (("A", None, None),))
        self.assertEqual(self.reached("if 3\nif 5\nelse\nx = load A 2\nend\nend\nstore B 1 x"), (("A", 2, -1), ("B", 1, 1)))
        self.assertEqual(self.reached("if 3\nelse\nif 3\nx = load A 0\nend\nend\nwhile 1\nstore C 2 x\nstep 1\nend")[1], ("C", 2, 1))
        self.assertIsNone(self.beyond("x = load A 0", "if 3\nelse\nif 3\nx = load B 0\nend\nend"))
        self.assertEqual(self.beyond("x = load A 0", "if 7\nif 8\nelse\nx = load A 0\nx = load B 0\nend\nend"), (7, "B", 0))
        self.assertEqual(self.reached("step 1"), ())

    def test_first_cell_by_the_letter_and_then_the_integer(self):
        program = "if 2\nx = load C 1\nx = load B 3\nx = load B -2\nstore B 0 x\nend"
        self.assertEqual(self.beyond("x = load A 0", program), (2, "B", -2))
        self.assertEqual(self.beyond("x = load B -2", program), (2, "B", 0))

    def test_far_counts(self):
        loop = "x = load A 0"
        for many in (5, 40):
            steps = "step 4\n" * many
            program = f"{steps}if 1\nx = load A 1\nend\nwhile 2\nx = load A 0\nstep 1\nend"
            self.assertEqual(self.beyond(loop, program, 4 * many + 5), (4 * many + 1, "A", 4 * many + 1))
            self.assertEqual(self.reached(program, 4 * many + 20), (("A", 4 * many, 0),))
            self.assertEqual(self.beyond(loop, f"{steps}x = load A -4", 30), (0, "A", 4 * many - 4))
            self.assertEqual(self.reached(f"{steps}x = load A -4", 200), (("A", 4 * many - 4, 4 * many - 4),))

    def test_made_programs(self):
        rng = random.Random(8)
        done = []
        while len(done) < 180:
            loop = makers.some_loop(rng, ("load", "store", "work"))
            base = (makers.plain(loop), makers.at_once(loop, rng.randrange(2, 5), rng.randrange(3)), makers.guarded(loop, 3, 5))
            program = rng.choice(base)
            for _ in range(rng.randrange(3)):
                program = makers.bent(rng, program)
            try:
                first_beyond(Loop(loop), Program(program))
            except (InvalidText, UnknownInput, OtherWords, OtherOuts):
                continue
            with self.subTest(loop=loop, program=program):
                done.append(self.beyond(loop, program, 40))
                self.reached(program, 40)
        self.assertGreater(done.count(None), 20)
        self.assertGreater(len(done) - done.count(None), 15)

    def test_long_ones_are_told_within_seconds(self):
        loop = "\n".join(f"{name} = load A {at - 4}" for at, name in enumerate("abcdefgh"))
        program = "step 4\n" * 200 + "while 12\n" + "x = load A 4\nx = load A -4\n" * 20 + "step 4\nstep 4\nend\n" + "if 1\nx = load A 0\nend\n" * 20
        begun = time.perf_counter()
        self.assertIsNone(first_beyond(Loop(loop), Program(program + "step 1")))
        self.assertEqual(reach(Program(program + "step 1")), (("A", 796, -1),))
        self.assertLess(time.perf_counter() - begun, 10)


class WrongInputsTest(unittest.TestCase):
    def test_no_loops_and_no_programs(self):
        for given in strange.NO_LOOPS:
            for program in (sample_program(), None, given):
                with self.subTest(given=given), self.assertRaises(NotALoop) as caught:
                    first_beyond(given, program)
                self.assertIs(caught.exception.given, given)
        for given in strange.NO_PROGRAMS:
            with self.subTest(given=given):
                with self.assertRaises(NotAProgram) as caught:
                    first_beyond(sample_loop(), given)
                self.assertIs(caught.exception.given, given)
                with self.assertRaises(NotAProgram) as caught:
                    reach(given)
                self.assertIs(caught.exception.given, given)

    def test_programs_that_are_not_for_the_loop(self):
        for text, kind, given in strange.UNFIT:
            with self.subTest(text=text), self.assertRaises(kind) as caught:
                first_beyond(strange.LOOP, Program(text))
            self.assertEqual(caught.exception.given, given)
            reach(Program(text))
        for text in strange.FIT:
            with self.subTest(text=text):
                first_beyond(strange.LOOP, Program(text))


if __name__ == "__main__":
    unittest.main()
