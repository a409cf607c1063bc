import random
import time
import unittest
from math import lcm

import makers
import strange
from plainly import first_error
from overlapturns.counts import Counts
from overlapturns.errors import InvalidNumber, InvalidText, NotALoop, NotAProgram, OtherOuts, OtherWords, UnknownInput
from overlapturns.judging import first_wrong, is_right, wrong_counts
from overlapturns.loops import Loop
from overlapturns.programs import Program
from overlapturns.samples import hasty_program, sample_loop, sample_program

EVERY = Counts(again=(0,))
CHAIN = "x = f x@1\nout x"
DEEP = "in k\na = f k h@1\nb = f a a@1\nc = f b b@1\nd = f c c@2\ne = f d d@3\ng = f e b\nh = f g a\ni = f h c\nout i h"
SEVEN = "in k\na = load A -4\nb = load A 4\nc = f a b\nstore A 0 c\nd = g c k\nstore B 3 d\ne = load B -4\nout e d"


class JudgedCase(unittest.TestCase):
    def check(self, loop, program, most=40, others=()):
        """Compare all that is told of a program with runs; return the Counts."""
        ours, theirs = Loop(loop), Program(program)
        told = wrong_counts(ours, theirs)
        counts = list(range(most + 1)) + list(others)
        errors = {count: first_error(loop, program, count) for count in counts}
        self.assertEqual([count for count in counts if count in told], [count for count in counts if errors[count]])
        for count in counts[::7]:
            if count <= 400:
                self.assertIs(is_right(ours, theirs, count), errors[count] is None)
        first = first_wrong(ours, theirs)
        if told.first is None:
            self.assertIsNone(first)
        else:
            self.assertEqual(first, (told.first, first_error(loop, program, told.first)))
        return told

    def right(self, loop, program):
        self.assertEqual(str(self.check(loop, program)), "none")


class ExamplesTest(JudgedCase):
    def test_of_the_document(self):
        loop, program, hasty = sample_loop(), sample_program(), hasty_program()
        self.assertIsNone(first_wrong(loop, program))
        self.assertEqual(first_wrong(loop, hasty), (1, ("out", 0)))
        self.assertIs(is_right(loop, hasty, 0), True)
        self.assertIs(is_right(loop, hasty, 1), False)
        self.assertEqual(str(wrong_counts(loop, program)), "none")
        self.assertEqual(str(wrong_counts(loop, hasty)), "1 .. from 1 by 1")
        self.assertIs(wrong_counts(loop, hasty).endless, True)
        short = program.put(4, "while 3")
        self.assertEqual(first_wrong(loop, short), (2, ("out", 0)))
        self.assertEqual(str(wrong_counts(loop, short)), "2 .. from 2 by 1")

    def test_by_place_and_by_name(self):
        loop, hasty = sample_loop(), hasty_program()
        self.assertIs(is_right(count=1, program=hasty, loop=loop), False)
        self.assertIs(is_right(loop, hasty, count=400), False)
        self.assertIs(is_right(loop, sample_program(), 400), True)
        self.assertEqual(first_wrong(program=hasty, loop=loop), (1, ("out", 0)))
        self.assertEqual(wrong_counts(loop, program=hasty), Counts(again=(1,)))


class RightTest(JudgedCase):
    def loops(self, seed, many):
        rng = random.Random(seed)
        return [makers.some_loop(rng, ("work", "work", "load", "store")) for _ in range(many)] + [CHAIN, DEEP, SEVEN]

    def test_plain(self):
        for loop in self.loops(1, 25):
            with self.subTest(loop=loop):
                self.right(loop, makers.plain(loop))

    def test_several_turns_at_once(self):
        for loop in self.loops(2, 6):
            for times in (2, 3, 4):
                for ending in range(3):
                    with self.subTest(loop=loop, times=times, ending=ending):
                        self.assertIsNone(first_wrong(Loop(loop), Program(makers.at_once(loop, times, ending))))
                self.right(loop, makers.at_once(loop, times, 0))

    def test_guards(self):
        for loop in self.loops(3, 8):
            for times, bound in ((2, 2), (3, 1), (4, 9), (2, 12), (4, 4)):
                with self.subTest(loop=loop, times=times, bound=bound):
                    self.right(loop, makers.guarded(loop, times, bound))

    def test_turns_ahead_of_the_while(self):
        rng = random.Random(12)
        for loop in self.loops(13, 6) + [makers.some_loop(rng, ("load", "store", "store")) for _ in range(6)]:
            for ahead, times in ((1, 1), (2, 1), (3, 2), (5, 4)):
                with self.subTest(loop=loop, ahead=ahead, times=times):
                    self.assertIsNone(first_wrong(Loop(loop), Program(makers.begun(loop, ahead, times))))
            self.right(loop, makers.begun(loop, 4, 2))

    def test_cells_stored_ahead_of_the_while(self):
        loop = "in k\nx = load A -4\ny = f x\nstore A 4 y\nstore B -4 k\nz = load B 4\nout z x"
        program = makers.begun(loop, 3, 1)
        self.right(loop, program)
        for old, new in (("y = f x", "y = x"), ("store A 4 y", "store A 4 x"), ("store A 4 y", "store A 3 y"), ("load A -4", "load A -3")):
            told = self.check(loop, program.replace(old, new, 1), 60)
            self.assertEqual(told, Counts(again=(3,)))

    def test_stored_back_behind_the_count(self):
        for bound in range(1, 9):
            program = f"while {bound}\nx = load A 0\nstore A 0 x\nstep 4\ny = load B -4\nstore B -4 y\nstep 4\nx = load A 4\nend"
            self.right("x = load A 0\ny = f x", program)
            wrong = self.check("in k\nstore A 0 k", f"take k k\nwhile {bound}\nstore A 0 k\nstep 2\nstore A -1 k\nend")
            self.assertEqual(wrong, Counts((), (1,), 2) if bound < 3 else Counts(again=(1,)))

    def test_a_turn_loaded_ahead(self):
        loop, program = sample_loop().text, sample_program().text
        self.right(loop, program)
        twice = program.replace("while 2\n", "while 3\ny = mul x k\nx = load A 1\ns = add s y\nstore B 0 s\nstep 1\nend\nwhile 2\n")
        self.right(loop, twice)
        ahead = (
            "take s s@1\ntake k k\nif 2\na = load A 0\nb = load A 1\nwhile 3\ny = mul a k\ns = add s y\nstore B 0 s\na = b\n"
            "b = load A 2\nstep 1\nend\ny = mul a k\ns = add s y\nstore B 0 s\ny = mul b k\ns = add s y\nstore B 1 s\nelse\n"
            "if 1\na = load A 0\ny = mul a k\ns = add s y\nstore B 0 s\nend\nend\nout s"
        )
        self.right(loop, ahead)

    def test_places_turned_in_rings(self):
        loop = "x = f x@3\nstore A 0 x\nout x"
        turned = "take a x@3\ntake b x@2\ntake c x@1\nwhile 1\nt = f a\na = b\nb = c\nc = t\nstore A 0 c\nstep 1\nend\nout c"
        self.right(loop, turned)
        thrice = (
            "take a x@3\ntake b x@2\ntake c x@1\nwhile 3\na = f a\nstore A 0 a\nb = f b\nstore A 1 b\nc = f c\nstore A 2 c\nstep 3\n"
            "end\nif 1\na = f a\nstore A 0 a\nif 2\nb = f b\nstore A 1 b\nc = b\nelse\nc = a\nend\nend\nout c"
        )
        self.right(loop, thrice)
        self.assertEqual(str(self.check(loop, thrice.replace("take b x@2", "take b x@1"))), "2 .. from 2 by 1")

    def test_without_a_while(self):
        self.right("in k\nx = f k\nout x", "take k k\ntake x x@1\nif 1\nx = f k\nend\nout x")
        self.right("x = load A 0\nstore A 0 x", "step 1")
        self.right("x = load A 3\nstore A 3 x\ny = f x", "a = load A 0\nstore A 0 a\nb = f a\nif 2\nstore A 0 a\nend")
        self.right("x = load A 0", "if 1\nend")
        told = self.check("in k\nstore A 0 k", "take k k\nif 1\nstore A 0 k\nend\nif 2\nstore A 1 k\nend")
        self.assertEqual(str(told), "3 .. from 3 by 1")

    def test_values_that_stay_the_same(self):
        self.right("in k\nx = f k\ny = g x@1\nout x", "take k k\ntake x x@1\nif 1\nx = f k\nend\nwhile 1\nstep 4\nend\nout x")
        self.right("x = load A -1\nstore A 0 x\nout x", "take x x@1\nif 1\nx = load A -1\nend\nwhile 1\nstore A 0 x\nstep 1\nend\nout x")

    def test_rubbish_and_cells_behind_do_not_matter(self):
        self.right("in k\nstore A 0 k", "take k k\nwhile 1\na = b\nc = load Z 4\nstore A 0 k\nd = f a c\nstep 1\nend")
        self.right("in k\nstore A 0 k", "take k k\nwhile 1\nstore A 0 k\nstep 1\nend\na = load A 3\nstore A 3 a")


class BentTest(JudgedCase):
    def test_bent_at_one_line(self):
        rng = random.Random(4)
        kinds = (("work", "work", "load", "store"), ("load", "store", "store", "work"))
        done = 0
        found = {}
        while done < 160:
            loop = makers.some_loop(rng, rng.choice(kinds))
            base = (
                makers.plain(loop), makers.at_once(loop, rng.randrange(2, 5), rng.randrange(3)),
                makers.guarded(loop, rng.randrange(2, 5), rng.randrange(1, 8)),
            )
            program = makers.bent(rng, rng.choice(base))
            try:
                is_right(Loop(loop), Program(program), 0)
            except (InvalidText, UnknownInput, OtherWords, OtherOuts):
                continue
            done += 1
            with self.subTest(loop=loop, program=program):
                told = self.check(loop, program, 40, (rng.randrange(41, 90), rng.randrange(90, 130)))
            kind = (told.first is None, told.endless, told.period > 1)
            found[kind] = found.get(kind, 0) + 1
        # Programs of all sorts are among them.
        self.assertEqual(len(found), 4)


class WrongAtTest(JudgedCase):
    def test_one_single_count(self):
        loop = "x = f x@1\nstore A 0 x\nout x"
        _, turn, _ = makers.parts_of(loop)
        one = "\n".join(turn + ["step 1"])
        for count in (0, 1, 2, 5, 11):
            program = f"take xa x@1\nif {count}\nif {count + 1}\nelse\nxa = f xa\nend\nend\nwhile 1\n{one}\nend\nout xa"
            self.assertEqual(self.check(loop, program), Counts((count,)))

    def test_below_some_count_and_from_some_count_on(self):
        for bound in (1, 4, 12):
            below = f"take xa x@1\nif {bound}\nelse\nxa = f xa\nend\nwhile 1\nx = f xa\nxa = x\nstep 1\nend\nout xa"
            self.assertEqual(self.check(CHAIN, below), Counts(tuple(range(bound))))
            above = f"take xa x@1\nif {bound}\nxa = f xa\nend\nwhile 1\nx = f xa\nxa = x\nstep 1\nend\nout xa"
            self.assertEqual(self.check(CHAIN, above), Counts(again=(bound,)))

    def test_leftover_turns(self):
        for times in (2, 3, 4):
            good = makers.at_once(CHAIN, times, 0)
            lines = good.split("\n")
            behind = lines.index("end") + 1
            short = "\n".join(lines[:behind] + lines[-1:])
            self.assertEqual(self.check(CHAIN, short), EVERY - Counts((), (0,), times))
            once = "\n".join(lines[:behind] + ["if 1"] + lines[behind + 1:])
            told = Counts((), tuple(range(2, times)), times)
            self.assertEqual(self.check(CHAIN, once), told)

    def test_rings_of_cells(self):
        for length in range(2, 9):
            low = -(length // 2)
            loop = f"x = load A {low}\nstore A {low + length} x\nout x"
            turn = f"x = load A {low}\nstore A {low + length} x\n"
            self.right(loop, f"take x x@1\nwhile 1\n{turn}step 1\nend\nout x")
            for times in (1, 2, 3, 4):
                body = f"{turn}step 1\n" * times
                program = f"take x x@1\na = load A 0\nwhile {times}\n{body}end\nwhile 1\n{turn}step 1\nend\nout a"
                told = self.check(loop, program, 60)
                self.assertEqual(told.period, length)
                self.assertEqual(len((EVERY - told).members), 1)

    def test_rings_of_cells_and_of_places(self):
        for length in range(2, 9):
            low = -(length // 2)
            loop = f"x = load A {low}\nstore A {low + length} x\nout x"
            for many in range(1, 7):
                names = "abcdef"[:many]
                loads = "".join(f"{name} = load A {low + at % length}\n" for at, name in enumerate(names))
                ring = "t = a\n" + "".join(f"{names[at]} = {names[at + 1]}\n" for at in range(many - 1)) + f"{names[-1]} = t\n"
                turn = f"x = load A {low}\nstore A {low + length} x\n"
                program = f"{loads}while 1\n{turn}{ring}step 1\nend\nout {names[-1]}"
                told = self.check(loop, program, 90)
                self.assertEqual(lcm(length, many) % told.period, 0)
                if many > 1 and lcm(length, many) == length * many:
                    self.assertEqual(told.period, length * many)

    def turned(self, names):
        """The lines that turn the values of places around."""
        return "t = " + names[0] + "\n" + "".join(f"{one} = {other}\n" for one, other in zip(names, names[1:])) + f"{names[-1]} = t\n"

    def test_works_that_stand_in_rings(self):
        loop = "in k\nx = f k\nout x"
        for words in ("fgf", "fff", "gff", "fffg", "fg", "gfgfgf"):
            names = "abcdef"[:len(words)]
            works = "".join(f"{name} = {word} k\n" for name, word in zip(names, words))
            program = f"take k k\ntake r x@1\n{works}while 1\nr = a\n{self.turned(names)}step 1\nend\nout r"
            wrong = tuple(at + 1 for at, word in enumerate(words) if word == "g")
            self.assertEqual(self.check(loop, program), Counts((), wrong, len(words)))

    def test_works_with_rings_of_cells_that_stand_in_rings(self):
        for length, low in ((2, -1), (3, -1), (5, -2), (8, -4)):
            loop = f"c = load A {low}\nstore A {low + length} c\nx = f c\nout x"
            for many in (1, 2, 3, 4, 6):
                names = "abdegh"[:many]
                begun = "".join(f"{name} = load A {low + at % length}\n{name} = f {name}\n" for at, name in enumerate(names))
                turn = f"c = load A {low}\nstore A {low + length} c\nx = a\n{self.turned(names)}step 1\n"
                told = self.check(loop, f"take x x@1\n{begun}while 1\n{turn}end\nout x", 70)
                self.assertEqual(told.first, None if many % length == 0 else many + 1)
                if lcm(many, length) == many * length > many:
                    self.assertEqual(told.period, many * length)

    def test_rings_that_are_worked_in(self):
        # What is wrong once stays so in sums over all turns, and every second or third turn in others.
        for back in (1, 2, 3):
            loop = f"c = load A -3\nstore A 3 c\ns = add s@{back} c\nout s"
            for many, wrong in ((6, None), (6, 1), (6, 4), (3, 0), (3, 1), (2, 1), (4, 3)):
                names = "abdegh"[:many]
                begun = "".join(f"{name} = load A {at - 3 if at != wrong else 4}\n" for at, name in enumerate(names))
                takes = "".join(f"take p{'xyz'[at]} s@{at + 1}\n" for at in range(back))
                handed = "".join(f"p{'xyz'[at]} = p{'xyz'[at - 1]}\n" for at in range(back - 1, 0, -1)) + "px = s\n"
                turn = f"c = load A -3\nstore A 3 c\ns = add p{'xyz'[back - 1]} a\n{handed}{self.turned(names)}step 1\n"
                told = self.check(loop, f"{takes}{begun}while 1\n{turn}end\nout px", 60)
                if many == 6:
                    self.assertEqual((told.first, told.period), (None, 1) if wrong is None else (wrong + 1, back))

    def test_great_products_of_rings(self):
        loop = "\n".join(f"{name} = load {array} 0\nstore {array} 1 {name}" for name, array in zip("xyzw", "BCDE")) + "\nout x y z w"
        names = [left + right for left in "abcdefghijklmnopqrstuvwyz" for right in "pqr"]
        begun, body, outs = [], [f"t = load {array} 0\nstore {array} 1 t" for array in "BCDE"], []
        for many, array in ((17, "B"), (19, "C"), (13, "D"), (11, "E")):
            ring, names = names[:many], names[many:]
            begun.append(f"{ring[0]} = load {array} 0")
            body += [f"t = {ring[0]}"] + [f"{one} = {other}" for one, other in zip(ring, ring[1:])] + [f"{ring[-1]} = t"]
            outs.append(ring[0])
        program = "\n".join(begun + ["while 1"] + body + ["step 1", "end", "out " + " ".join(outs)])
        told = self.check(loop, program, 40)
        period = 17 * 19 * 13 * 11
        self.assertEqual((told.period, (EVERY - told).members), (period, (period,)))
        self.assertNotIn(period * 10 ** 20, told)
        self.assertIn(period * 10 ** 20 + 1, told)

    def test_slower_values_that_are_met(self):
        for ahead in (1, 5, 50, 150, 300):
            program = "take x x@1\n" + "x = f x\n" * ahead + "while 2\nx = f x\nstep 2\nend\nif 1\nx = f x\nend\nout x"
            told = self.check(CHAIN, program, 40, (2 * ahead - 1, 2 * ahead, 2 * ahead + 1, 2 * ahead + 2))
            self.assertEqual(EVERY - told, Counts((2 * ahead, 2 * ahead + 1)))
        body = "x = f x\n" * 7
        program = "take x x@1\n" + "x = f x\n" * 30 + f"while 8\n{body}step 4\nstep 4\nend\nwhile 1\nx = f x\nstep 1\nend\nout x"
        self.assertEqual(EVERY - self.check(CHAIN, program), Counts(tuple(range(240, 248))))

    def test_faster_values_that_are_met(self):
        for late in (1, 10, 40, 90):
            program = "take x x@1\n" + "step 4\n" * late + "while 1\nx = f x\nx = f x\nstep 1\nend\nout x"
            told = self.check(CHAIN, program, 40, (8 * late - 1, 8 * late, 8 * late + 1))
            self.assertEqual(EVERY - told, Counts((0, 8 * late)))

    def test_met_values_beside_cells(self):
        loop = "in k\nx = g x@1 k\nstore A 0 x\nout x"
        for ahead in (3, 60):
            program = (
                "take k k\ntake x x@1\ntake y x@1\n" + "y = g y k\n" * ahead
                + "while 3\nx = g x k\nstore A 0 x\nx = g x k\nstore A 1 x\nx = g x k\nstore A 2 x\ny = g y k\ny = g y k\nstep 3\nend\n"
                "while 1\nx = g x k\nstore A 0 x\ny = g y k\nstep 1\nend\nout y"
            )
            told = self.check(loop, program, 40, range(3 * ahead - 2, 3 * ahead + 5))
            self.assertEqual(EVERY - told, Counts((3 * ahead, 3 * ahead + 1, 3 * ahead + 2)))

    def test_cells_that_are_wrong_late(self):
        # So many cells are stored right; the next one would be from the ring of eight cells.
        loop = "x = load A -4\nstore A 4 x\nstore B 0 x"
        for many in range(1, 9):
            names = "abcdefgh"[:many]
            loads = "".join(f"{name} = load A {at - 4}\n" for at, name in enumerate(names))
            ring = "t = a\n" + "".join(f"{one} = {other}\n" for one, other in zip(names, names[1:])) + f"{names[-1]} = t\n"
            program = f"{loads}while 1\nx = load A -4\nstore A 4 x\nstore B 0 a\n{ring}step 1\nend"
            self.assertEqual(self.check(loop, program), Counts() if many == 8 else Counts(again=(many + 1,)))

    def test_chains_of_three_turns(self):
        loop = "x = f x@3\nout x"
        body = "while 1\nt = f c\nc = b\nb = a\na = t\nstep 1\nend\nout a"
        self.right(loop, f"take a x@1\ntake b x@2\ntake c x@3\n{body}")
        self.assertEqual(self.check(loop, f"take a x@1\ntake b x@3\ntake c x@3\n{body}"), Counts((), (2,), 3))
        self.assertEqual(self.check(loop, f"take a x@2\ntake b x@2\ntake c x@3\n{body}"), Counts((), (0,), 3))
        self.assertEqual(self.check(loop, f"take b x@2\ntake c x@3\n{body}"), Counts((), (0,), 3))

    def test_chains_that_go_around_several_names(self):
        loop = "x = f y@1\ny = g z@3\nz = f x@2\nout x y z"
        good = makers.plain(loop)
        self.right(loop, good)
        self.right(loop, makers.at_once(loop, 4, 1))
        periods = []
        for name, back in (("y", 1), ("z", 1), ("z", 2), ("z", 3), ("x", 1), ("x", 2)):
            old = f"take {makers.place(f'{name}@{back}')} {name}@{back}"
            for program in (good, makers.at_once(loop, 2, 0), makers.at_once(loop, 3, 2)):
                told = self.check(loop, program.replace(old, old.replace(f"{name}@", f"{'yz'[name == 'y']}@")), 40, range(100, 110))
                periods.append(told.period)
        self.assertEqual(set(periods), {6})

    def test_faster_chains_around_several_names(self):
        loop = "x = f y@1\ny = g x@1\nout x y"
        # Two turns a step, begun so late that they come to the loop's at one count.
        for late in (1, 6, 25, 70):
            program = "take x x@1\ntake y y@1\n" + "step 4\n" * late + "while 1\nt = f y\ny = g x\nx = t\nt = f y\ny = g x\nx = t\nstep 1\nend\nout x y"
            told = self.check(loop, program, 40, (8 * late - 2, 8 * late - 1, 8 * late, 8 * late + 1, 8 * late + 2))
            self.assertEqual(EVERY - told, Counts((0, 8 * late)))
        # One turn in a step of three, with some turns ahead, as many as are left out up to one count.
        for ahead in (2, 20, 60):
            turn = "t = f y\ny = g x\nx = t\n"
            program = "take x x@1\ntake y y@1\n" + turn * ahead + f"while 3\n{turn}step 3\nend\nwhile 1\n{turn}step 1\nend\nout x y"
            meet = [count for count in range(4 * ahead) if ahead + count // 3 + count % 3 == count]
            told = self.check(loop, program, 40, range(meet[0] - 2, meet[-1] + 4))
            self.assertEqual(EVERY - told, Counts(tuple(meet)))

    def test_one_value_of_several_goes_at_another_pace(self):
        loop = "x = f x@1\ny = f y@2\nz = g x y\nstore A 0 x\nout z y"
        good = makers.plain(loop)
        self.right(loop, good)
        for old, new in (("ya = y", "ya = x"), ("y = f yb", "y = f ya"), ("x = f xa", "x = f xa\nx = f x"), ("z = g x y", "z = g x yb")):
            told = self.check(loop, good.replace(old, new, 1), 60)
            self.assertTrue(told.endless)

    def test_cells_met_by_a_value_that_stays(self):
        loop = "x = load A 0\nout x"
        for late in range(0, 13):
            program = "step 4\n" * late + "a = load A 3\nif 2\nstep 2\nend\nwhile 1\nstep 1\nend\nout a"
            self.assertEqual(EVERY - self.check(loop, program, 70), Counts((4 * late + 4,)))

    def test_stores_that_are_wrong_at_no_turn_at_all(self):
        loop = "in k\nstore A 0 k\nx = f k"
        self.assertEqual(self.check(loop, "take k k\nstore A 0 k\nwhile 1\nstore A 0 k\nstep 1\nend"), Counts((0,)))
        told = self.check(loop, "take k k\nif 5\nelse\nstore A 4 k\nend\nwhile 1\nstore A 0 k\nstep 1\nend")
        self.assertEqual(told, Counts((0, 1, 2, 3, 4)))
        self.assertEqual(first_wrong(Loop(loop), Program("take k k\nstore A 0 k\nif 1\nend")), (0, ("cell", "A", 0)))

    def test_writings_that_double_with_each_turn(self):
        loop = "x = mul x@1 x@1\ny = add y@1 x\nout y x"
        self.right(loop, makers.at_once(loop, 4, 2))
        told = self.check(loop, makers.plain(loop).replace("mul xa xa", "mul x xa"))
        self.assertEqual(told, Counts(again=(1,)))


class FirstPlaceTest(JudgedCase):
    LOOP = Loop("in k\nx = f k\ny = g k\nstore A 4 x\nstore B -1 y\nout x y")
    RIGHT = "take k k\ntake x x@1\ntake y y@1\nwhile 1\nx = f k\ny = g k\nstore A 4 x\nstore B -1 y\nstep 1\nend\nout x y"

    def first(self, *changes):
        text = self.RIGHT
        for old, new in changes:
            self.assertIn(old, text)
            text = text.replace(old, new)
        return first_wrong(self.LOOP, Program(text))

    def test_order(self):
        self.assertIsNone(self.first())
        cells = (("store A 4 x", "store A 3 x"), ("store B -1 y", "store B -2 x"))
        self.assertEqual(self.first(("out x y", "out y x"), *cells), (0, ("out", 0)))
        self.assertEqual(self.first(("take y y@1", "take y y@2"), *cells), (0, ("out", 1)))
        self.assertEqual(self.first(*cells), (1, ("cell", "A", 3)))
        self.assertEqual(self.first(cells[1]), (1, ("cell", "B", -2)))
        self.assertEqual(self.first(("store B -1 y", "store B -1 k")), (1, ("cell", "B", -1)))
        self.assertEqual(self.first(("store B -1 y", "store B -1 y\nstore A -4 y\nstore C -4 y")), (1, ("cell", "A", -4)))
        self.assertEqual(self.first(("end\n", "end\nif 2\nstore Z 4 y\nend\nif 3\nend\n"), ("if 3\nend", "if 0\nend")), None)
        self.assertEqual(self.first(("while 1", "if 2\nstore Z 4 y\nend\nwhile 1")), (2, ("cell", "Z", 4)))

    def test_results_come_first(self):
        self.assertEqual(self.first(("y = g k", "y = f k")), (1, ("out", 1)))
        self.assertEqual(self.first(("x = f k", "x = g k"), ("y = g k", "y = f k")), (1, ("out", 0)))


class WrongInputsTest(unittest.TestCase):
    def test_no_loops_and_no_programs(self):
        for deed in (first_wrong, wrong_counts, lambda loop, program: is_right(loop, program, 1)):
            for given in strange.NO_LOOPS:
                for program in (sample_program(), None, given):
                    with self.subTest(given=given), self.assertRaises(NotALoop) as caught:
                        deed(given, program)
                    self.assertIs(caught.exception.given, given)
            for given in strange.NO_PROGRAMS:
                with self.subTest(given=given), self.assertRaises(NotAProgram) as caught:
                    deed(sample_loop(), given)
                self.assertIs(caught.exception.given, given)

    def test_no_counts(self):
        for given in strange.NO_COUNTS:
            for program in (sample_program(), Program("take a q\nstep 1")):
                with self.subTest(given=given), self.assertRaises(InvalidNumber) as caught:
                    is_right(sample_loop(), program, given)
                self.assertIs(caught.exception.given, given)
            with self.assertRaises(NotAProgram):
                is_right(sample_loop(), None, given)
            with self.assertRaises(NotALoop):
                is_right("loop", None, given)

    def test_programs_that_are_not_for_the_loop(self):
        for deed in (first_wrong, wrong_counts, lambda loop, program: is_right(loop, program, 400)):
            for text, kind, given in strange.UNFIT:
                with self.subTest(text=text), self.assertRaises(kind) as caught:
                    deed(strange.LOOP, Program(text))
                self.assertEqual(caught.exception.given, given)
            for text in strange.FIT:
                with self.subTest(text=text):
                    deed(strange.LOOP, Program(text))


class SoonTest(JudgedCase):
    def test_long_ones_are_told_within_seconds(self):
        eight = "in k\n" + "\n".join(f"{name} = f {name}@3 {other}@{1 + at % 3} k" for at, (name, other) in enumerate(zip("abcdefgh", "bcdefgha")))
        for loop in (DEEP, SEVEN, eight + "\nout a h"):
            takes, turn, out = makers.parts_of(loop)
            one = turn + ["step 1"]
            eights = "\n".join(takes + ["while 8"] + one * 8 + ["end", "while 1"] + one + ["end"] + out)
            for program in (makers.plain(loop), makers.at_once(loop, 4, 1), eights, eights.replace("while 8", "while 5")):
                begun = time.perf_counter()
                told = wrong_counts(Loop(loop), Program(program))
                first = first_wrong(Loop(loop), Program(program))
                self.assertLess(time.perf_counter() - begun, 10)
                self.assertEqual(told.first, first[0] if first else None)
                lines = program.split("\n")
                rng = random.Random(9)
                for _ in range(4):
                    bent = makers.bent(rng, "\n".join(lines))
                    try:
                        begun = time.perf_counter()
                        wrong_counts(Loop(loop), Program(bent))
                        self.assertLess(time.perf_counter() - begun, 10)
                    except (InvalidText, UnknownInput, OtherWords, OtherOuts):
                        continue


if __name__ == "__main__":
    unittest.main()
