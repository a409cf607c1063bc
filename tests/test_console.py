import random
import time
import unittest

import makers
import strange
from plainly import Numbered, first_error, program_end
from overlapturns.console import Console
from overlapturns.errors import InvalidText, NotALoop, NotAProgram, NotRight, OtherOuts, OtherWords, UnknownInput
from overlapturns.judging import first_wrong, wrong_counts
from overlapturns.loops import Loop
from overlapturns.made import plain, unrolled
from overlapturns.mending import needless, wrong_distances
from overlapturns.programs import Program
from overlapturns.samples import hasty_program, sample_loop, sample_program
from overlapturns.times import time_of
from overlapturns.touching import first_beyond

NO_LINES = (
    "", " ", "  ", "Right", "RIGHT", "rights", "quit", "yes", "right ", " right", "right  3", "right\n", "\nright", "right\n3", "right 3 4", "right x", "right -1",
    "right +1", "right 03", "right 00", "right 401", "right 1000", "right 3.0", "right 3 ", "right " + "9" * 39, "wrong 1", "wrong ", "beyond 1", "beyonds", "needless 1",
    "needles", "over", "over A", "over A A", "over a b", "over A b", "over AB", "over A B C", "over A  B", "over A B ", "over  A B", "over @ A", "over A [",
    "over A 1", "time", "time ", "time x", "time -1", "time +1", "time 00", "time 07", "time 401", "time 1 2", "time  1", "time 1 ", "rise 1", "show 1", "show ",
    "put", "put 4", "put 4 ", "put  4 a = b", "put 4  a = b", "put 4 a  = b", "put 4 a = b ", " put 4 a = b", "put x a = b", "put -1 a = b", "put +1 a = b",
    "put 04 a = b", "put 00 a = b", "put 4 a = b\n", "put 4 a\n= b", "put 4\na = b", "put a = b", "drop", "drop ", "drop x", "drop -1", "drop +1", "drop 04",
    "drop 4 5", "drop  4", "drop 4 ", "drop 4\n", "undo 1", "undo ", "undo\n", "take k k", "x = load A 1", "right,", "time N", "over A B\n", "'right'",
)
NO_STRINGS = tuple(given for given in strange.ANYTHING if not isinstance(given, str)) + (sample_program(), sample_loop(), ("right",), ["right"], b"right")


def sample_console():
    return Console(sample_loop(), sample_program())


class AnswersTest(unittest.TestCase):
    def test_example_of_the_document(self):
        console = sample_console()
        lines = ["right", "over A B", "time 10", "put 4 while 1", "right", "wrong", "beyond", "needless", "put 4 until 1", "undo", "right", "rise"]
        told = ["yes", "1", "61", "ok", "1 out 0", "1 .. from 1 by 1", "1 A 1", "wrong", "no", "ok", "yes", "6/1"]
        self.assertEqual(list(map(console.say, lines)), told)

    def test_by_name(self):
        console = Console(program=hasty_program(), loop=sample_loop())
        self.assertEqual(console.say(line="right"), "1 out 0")

    def test_right(self):
        loop, program = sample_loop(), sample_program()
        for at, line, told in (
            (0, "take s s@2", "0 out 0"), (4, "while 3", "2 out 0"), (8, "store B -1 s", "2 B -1"), (8, "store B -4 s", "2 B -4"),
            (8, "store A 4 s", "2 A 4"), (13, "store Z 0 s", "1 B 0"), (16, "out k", "0 out 0"),
        ):
            wrong = program.put(at, line)
            count, where = first_wrong(loop, wrong)
            self.assertEqual(told, f"{count} {where[0]} {where[1]}" if where[0] == "out" else f"{count} {where[1]} {where[2]}")
            self.assertEqual(Console(loop, wrong).say("right"), told)
        self.assertEqual(sample_console().say("right"), "yes")
        self.assertEqual(Console(Loop("x = f x@1\ny = g y@1\nout x y"), Program("take x x@1\nwhile 1\nx = f x\nstep 1\nend\nout x y")).say("right"), "0 out 1")

    def test_right_at_a_count(self):
        short = unrolled(sample_loop(), 2)
        short = short.put(short.lines.index("while 1"), "while 2")
        console = Console(sample_loop(), short)
        for count in (0, 1, 2, 3, 9, 10, 100, 399, 400):
            told = "yes" if first_error(sample_loop().text, short.text, count) is None else "no"
            self.assertEqual(console.say(f"right {count}"), told)
            self.assertEqual(told, "no" if count % 2 else "yes")
            self.assertEqual(sample_console().say(f"right {count}"), "yes")

    def test_wrong(self):
        loop = Loop("x = f x@1\nout x")
        for text, told in (
            ("take r x@1\nwhile 1\nr = f r\nstep 1\nend\nout r", "none"), ("take r x@1\nwhile 2\nr = f r\nr = f r\nstep 2\nend\nout r", "1 .. from 0 by 2"),
            ("take r x@1\nif 3\nif 4\nelse\nr = f r\nend\nend\nwhile 1\nr = f r\nstep 1\nend\nout r", "3"), ("a = b\nout a", "0 .. from 0 by 1"),
        ):
            console = Console(loop, Program(text))
            self.assertEqual(console.say("wrong"), told)
            self.assertEqual(console.say("wrong"), str(wrong_counts(loop, Program(text))))

    def test_beyond(self):
        loop = Loop("x = load A -2")
        for text, told in (
            ("a = b", "never"), ("a = load A -3", "0 A -3"), ("if 7\na = load B 4\nend", "7 B 4"), ("while 1\na = load A -2\nstep 1\nend", "never"),
            ("while 1\na = load A -2\nstep 1\nend\nstore C 0 a", "0 C 0"), ("while 1\na = load A -1\nstep 1\nend", "1 A -1"),
        ):
            self.assertEqual(Console(loop, Program(text)).say("beyond"), told)

    def test_needless(self):
        program = sample_program().text.replace("out s", "q = s\nr = q\ns = s\nout s")
        console = Console(sample_loop(), Program(program))
        self.assertEqual(console.say("needless"), "16 17 18")
        self.assertEqual(sample_console().say("needless"), "none")
        self.assertEqual(Console(sample_loop(), hasty_program()).say("needless"), "wrong")
        self.assertEqual(Console(sample_loop(), Program(program).put(0, "take s s@3")).say("needless"), "wrong")
        self.assertEqual(Console(Loop("x = f x@1"), Program("a = b\nstep 1")).say("needless"), "0")

    def test_over(self):
        console = sample_console()
        for line, told in (("over A B", "1"), ("over B A", "-1"), ("over A Z", "none"), ("over Y Z", "none"), ("over Z A", "none")):
            self.assertEqual(console.say(line), told)
        several = Console(
            Loop("x = load A 0\nstore B 0 x"),
            Program("while 3\na = load A 0\nb = load A 1\nc = load A 2\nstore B 0 a\nstore B 1 b\nstore B 2 c\nstep 3\nend\nwhile 1\na = load A 0\nstore B 0 a\nstep 1\nend"),
        )
        self.assertEqual([several.say("over A B"), several.say("over B A")], ["1 2", "-2 -1"])
        self.assertEqual(Console(sample_loop(), hasty_program()).say("over A B"), "wrong")
        self.assertEqual(Console(sample_loop(), hasty_program()).say("over Y Z"), "wrong")

    def test_time_and_rise(self):
        for program in (sample_program(), hasty_program(), unrolled(sample_loop(), 3)):
            console = Console(sample_loop(), program)
            for count in (0, 1, 2, 3, 10, 399, 400):
                self.assertEqual(console.say(f"time {count}"), str(sum(program_end(program.text, count, Numbered()).kinds)))
            top, bottom = time_of(program).rise
            self.assertEqual(console.say("rise"), f"{top}/{bottom}")
        loop = Loop("x = f x@1")
        self.assertEqual(Console(loop, Program("a = b")).say("rise"), "0/1")
        self.assertEqual(Console(loop, Program("while 1\nstep 4\nstep 3\nend")).say("rise"), "3/7")

    def test_show(self):
        self.assertEqual(sample_console().say("show"), sample_program().text)

    def test_made_programs(self):
        rng = random.Random(81)
        seen = {}
        done = 0
        while done < 60:
            text = makers.some_loop(rng, ("work", "load", "store"))
            loop = Loop(text)
            program = rng.choice((makers.plain(text), makers.at_once(text, 2, 0), plain(loop).text))
            if done % 2:
                program = makers.bent(rng, program)
            try:
                console = Console(loop, Program(program))
            except (InvalidText, UnknownInput, OtherWords, OtherOuts):
                continue
            done += 1
            program = Program(program)
            first = first_wrong(loop, program)
            told = "yes" if first is None else " ".join(str(part) for part in (first[0],) + (first[1] if first[1][0] == "out" else first[1][1:]))
            self.assertEqual(console.say("right"), told)
            self.assertEqual(console.say("wrong"), str(wrong_counts(loop, program)))
            beyond = first_beyond(loop, program)
            self.assertEqual(console.say("beyond"), "never" if beyond is None else "{} {} {}".format(*beyond))
            for line, deed in (("needless", lambda: needless(loop, program)), ("over B C", lambda: wrong_distances(loop, program, "B", "C"))):
                try:
                    told = " ".join(str(number) for number in deed()) or "none"
                except NotRight:
                    told = "wrong"
                self.assertEqual(console.say(line), told)
                seen[told] = True
        self.assertGreater(len(seen), 4)


class ChangesTest(unittest.TestCase):
    def said(self, console, line, told, program):
        self.assertEqual(console.say(line), told)
        self.assertEqual(console.say("show"), program.text if isinstance(program, Program) else program)

    def test_put_drop_and_undo(self):
        console, program = sample_console(), sample_program()
        self.said(console, "undo", "nothing", program)
        one = program.put(4, "while 1")
        self.said(console, "put 4 while 1", "ok", one)
        two = one.without(5)
        self.said(console, "drop 5", "ok", two)
        three = two.put(0, "take s s@3")
        self.said(console, "put 0 take s s@3", "ok", three)
        for told, before in (("ok", two), ("ok", one), ("ok", program), ("nothing", program), ("nothing", program)):
            self.said(console, "undo", told, before)
        self.said(console, "put 3 x = load A -4", "ok", program.put(3, "x = load A -4"))
        self.said(console, "undo", "ok", program)
        self.said(console, "put 16 out k", "ok", program.put(16, "out k"))

    def test_answers_go_by_what_stands(self):
        console = sample_console()
        console.say("put 8 store B -1 s")
        self.assertEqual([console.say("right"), console.say("right 1"), console.say("right 2")], ["2 B -1", "yes", "no"])
        console.say("put 13 store B -1 s")
        self.assertEqual([console.say("right"), console.say("beyond"), console.say("time 1")], ["1 B -1", "1 B -1", "7"])
        console.say("drop 13")
        self.assertEqual(console.say("time 1"), "6")
        console.say("undo")
        console.say("undo")
        console.say("undo")
        self.assertEqual([console.say("right"), console.say("undo")], ["yes", "nothing"])

    def test_the_same_line_again_is_a_change(self):
        console, program = sample_console(), sample_program()
        self.said(console, "put 4 while 2", "ok", program)
        self.said(console, "undo", "ok", program)
        self.said(console, "undo", "nothing", program)

    def test_lines_that_are_none(self):
        console, program = sample_console(), sample_program()
        for line in (
            "put 4 until 1", "put 4 while 0", "put 4 while 13", "put 4 if", "put 5 x", "put 5 else", "put 16 end", "put 9 step 5", "put 5 y = x k k k k", "put 5 y = load a 0",
            "put 5 y = load A 5", "put 5 y = load A 05", "put 0 take k k", "put 16 take s s@1", "put 2 out s", "put 5 Y = mul x k", "put 5 mul", "put 10 step 1", "put 9 x = x",
            "drop 2", "drop 4", "drop 9", "drop 10", "drop 15", "put 5 y = add x", "put 2 while 1", "put 5 take q k", "put 16 out",
        ):
            with self.subTest(line=line):
                self.said(console, line, "no", program)
        self.said(console, "undo", "nothing", program)

    def test_indexes_of_no_line(self):
        console, program = sample_console(), sample_program()
        for index in ("17", "18", "400", "401", "1000", "9" * 39, "10000000000000000000000"):
            self.said(console, f"put {index} a = b", "no", program)
            self.said(console, f"drop {index}", "no", program)
        self.said(console, "undo", "nothing", program)

    def test_programs_that_are_not_for_the_loop(self):
        console, program = sample_console(), sample_program()
        for line in (
            "put 0 take s x@1", "drop 16", "put 1 take k q", "put 1 take k k@1", "put 0 take s s", "put 16 out s s", "put 16 a = b", "put 13 s = mul s", "put 13 s = add s",
        ):
            told = "ok" if line == "put 0 take s x@1" else "no"
            self.assertEqual(console.say(line), told)
            if told == "ok":
                console.say("undo")
            self.assertEqual(console.say("show"), program.text)
        one = Console(Loop("x = mul x@1 x@1\nout x"), Program("take r x@1\na = b\nout r"))
        self.assertEqual([one.say("put 1 r = mul r"), one.say("put 1 r = mul r r"), one.say("right 1"), one.say("drop 2"), one.say("drop 0")], ["no", "ok", "yes", "no", "ok"])
        self.assertEqual([one.say("drop 0"), one.say("undo"), one.say("undo"), one.say("undo")], ["no", "ok", "ok", "nothing"])

    def test_lines_behind_which_no_program_is_left(self):
        loop = Loop("x = f x@1")
        console = Console(loop, Program("a = b"))
        self.said(console, "drop 0", "no", "a = b")
        self.said(console, "put 0 take a x@1", "no", "a = b")
        self.said(console, "put 0 step 4", "ok", "step 4")
        self.said(console, "undo", "ok", "a = b")
        longest = Program("a = b\n" * 399 + "a = b")
        self.said(Console(loop, longest), "drop 399", "ok", longest.without(399))
        self.said(Console(loop, longest), "put 399 step 1", "ok", longest.put(399, "step 1"))
        self.said(Console(loop, longest), "put 400 step 1", "no", longest)

    def test_consoles_of_the_same_program(self):
        loop, program = sample_loop(), sample_program()
        one, other = Console(loop, program), Console(loop, program)
        one.say("put 4 while 1")
        self.assertEqual([one.say("right"), other.say("right"), other.say("undo")], ["1 out 0", "yes", "nothing"])
        self.assertEqual(program, sample_program())


class WrongInputsTest(unittest.TestCase):
    def test_no_lines(self):
        console = sample_console()
        console.say("put 4 while 1")
        before = console.say("show")
        for given in NO_LINES + NO_STRINGS:
            with self.subTest(given=given), self.assertRaises(InvalidText) as caught:
                console.say(given)
            self.assertIs(caught.exception.given, given)
        self.assertEqual(console.say("show"), before)
        self.assertEqual([console.say("undo"), console.say("undo")], ["ok", "nothing"])

    def test_no_loops_and_no_programs(self):
        for given in strange.NO_LOOPS:
            with self.subTest(given=given), self.assertRaises(NotALoop) as caught:
                Console(given, None)
            self.assertIs(caught.exception.given, given)
        for given in strange.NO_PROGRAMS:
            with self.subTest(given=given), self.assertRaises(NotAProgram) as caught:
                Console(sample_loop(), given)
            self.assertIs(caught.exception.given, given)

    def test_programs_that_are_not_for_the_loop(self):
        for text, kind, given in strange.UNFIT:
            with self.subTest(text=text), self.assertRaises(kind) as caught:
                Console(strange.LOOP, Program(text))
            self.assertEqual(caught.exception.given, given)
        for text in strange.FIT:
            Console(strange.LOOP, Program(text))


class SoonTest(unittest.TestCase):
    def test_all_lines_are_answered_within_seconds(self):
        text = "in k\n" + "\n".join(f"{name} = f {name}@3 {other}@2 k" for name, other in zip("abcdefg", "bcdefga")) + "\nx = load A -3\nout a g"
        loop = Loop(text)
        for program in (plain(loop), unrolled(loop, 4)):
            console = Console(loop, program)
            for line in ("right", "right 400", "wrong", "beyond", "needless", "over A B", "time 400", "rise", "put 0 take k k", "drop 9", "undo", "show"):
                begun = time.perf_counter()
                console.say(line)
                self.assertLess(time.perf_counter() - begun, 10)


if __name__ == "__main__":
    unittest.main()
