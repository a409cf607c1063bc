import random
import time
import unittest

import makers
import strange
from plainly import first_error, loop_end, program_end
from overlapturns.books import Book
from overlapturns.checker import accepts
from overlapturns.counts import Counts
from overlapturns.errors import InvalidText, OtherOuts, OtherWords, UnknownInput
from overlapturns.judging import first_wrong
from overlapturns.loops import Loop
from overlapturns.made import plain
from overlapturns.papers import paper_of_beyond, paper_of_needed, paper_of_wrong
from overlapturns.programs import Program
from overlapturns.samples import hasty_program, sample_loop, sample_program
from overlapturns.times import Costs, time_of
from overlapturns.worlds import Numbers, Texts

LOOP, GOOD, HASTY = sample_loop().text, sample_program().text, hasty_program().text
WORLD = (97, 3)
WRONG = ("wrong", LOOP, HASTY, 1, ("out", 0))
BEYOND = ("beyond", LOOP, HASTY, 1, "A", 1)
NEEDED = ("needed", LOOP, GOOD, 5)
NEEDED_PAPER = (2, ("out", 0), 97, 3)
OTHERS = strange.ANYTHING + (
    sample_loop(), sample_program(), Numbers(97, 3), Book(), Costs(), time_of(sample_program()), float, ("out", ("out", ("out", (0,)))),
    [[[[[[[[[[[[[[1]]]]]]]]]]]]]], {"a": {"b": ("c", [None])}}, b"out", frozenset((1,)), {1}, range(3), 5j, "wrong", "97", -(10 ** 39),
)


def ended(value):
    """What a run in the test ends with at a place of error."""
    end, where = value
    return end.results[where[1]] if where[0] == "out" else end.content(where[1], where[2])


def is_shown(loop, program, count, where, modulus, seed):
    world = Numbers(modulus, seed)
    return ended((loop_end(loop, count, world), where)) != ended((program_end(program, count, world), where))


def replaced(row, at, value):
    return row[:at] + (value,) + row[at + 1:]


class CheckerCase(unittest.TestCase):
    def yes(self, claim, paper):
        self.assertIs(accepts(claim, paper), True)

    def no(self, claim, paper):
        self.assertIs(accepts(claim, paper), False)


class WrongTest(CheckerCase):
    def test_examples_of_the_document(self):
        loop, program, hasty = sample_loop(), sample_program(), hasty_program()
        made = [paper_of_wrong(loop, hasty), paper_of_beyond(loop, hasty), paper_of_needed(loop, program, 5)]
        told = [accepts(made[0][0], made[0][1]), accepts(made[1][0], made[1][1]), accepts(made[2][0], made[2][1]), accepts(made[1][0], None)]
        self.assertEqual(told, [True, True, True, False])

    def test_good_papers(self):
        self.yes(WRONG, WORLD)
        self.assertIs(accepts(paper=WORLD, claim=WRONG), True)
        for world in ((2, 1), (999999937, 0), (10 ** 9, 0), (10 ** 9, 10 ** 9), (97, 0)):
            self.assertIs(accepts(WRONG, world), is_shown(LOOP, HASTY, 1, ("out", 0), *world))
        for count in range(1, 61):
            self.yes(replaced(WRONG, 3, count), (999999937, 1))
        shifted = GOOD.replace("store B 0 s", "store B -1 s")
        for count, where in ((1, ("cell", "B", 0)), (1, ("cell", "B", -1)), (60, ("cell", "B", 59)), (60, ("cell", "B", 7))):
            self.yes(("wrong", LOOP, shifted, count, where), (999999937, 1))
        # Nothing asks for the first place of error.
        both = GOOD.replace("store B 0 s", "store B 1 s").replace("out s", "out k")
        for where in (("out", 0), ("cell", "B", 0), ("cell", "B", 3)):
            self.yes(("wrong", LOOP, both, 3, where), (999999937, 1))

    def test_counts(self):
        for count in (61, 400, 10 ** 39, -1, True, False, None, "1", (), (1,), [1]):
            self.no(replaced(WRONG, 3, count), (999999937, 1))
        self.no(replaced(WRONG, 3, 0), (999999937, 1))

    def test_places_of_error(self):
        for where in (
            ["out", 0], ("out",), ("out", 1), ("out", -1), ("out", True), ("out", False), ("out", None), ("out", "0"), ("out", 0, 0), ("outs", 0), ("Out", 0),
            (("out",), 0), ("out", (0,)), None, 0, "out", (), ("cell", "B"), ("cell", "B", 0, 0), ("cell", "b", 0), ("cell", "AB", 0), ("cell", "", 0),
            ("cell", None, 0), ("cell", "B", True), ("cell", "B", False), ("cell", "B", None), ("cell", "B", "0"), ["cell", "B", 0], ("cell", ("B", 0)),
            ("Cell", "B", 0), ("B", 0), (b"out", 0), (True, 0), ("cell", True, 0),
        ):
            for count in (1, 2):
                with self.subTest(where=where):
                    self.no(("wrong", LOOP, HASTY, count, where), (999999937, 1))
        # Cells in which the same stands behind both.
        for where in (("cell", "A", 0), ("cell", "Z", 0), ("cell", "B", 5), ("cell", "B", -(10 ** 39)), ("cell", "B", 10 ** 39)):
            self.no(("wrong", LOOP, HASTY, 1, where), (999999937, 1))
        self.yes(("wrong", LOOP, HASTY, 1, ("cell", "B", 1)), (999999937, 1))
        self.no(("wrong", "x = f x@1", "a = b", 1, ("out", 0)), (999999937, 1))

    def test_texts(self):
        for text in OTHERS + (LOOP + "\n", "in k", "x = f y", LOOP.split("\n"), GOOD, LOOP.replace("mul x k", "mul x q")):
            self.no(replaced(WRONG, 1, text), (999999937, 1))
        for text in OTHERS + (HASTY + "\n", "end", HASTY.split("\n"), LOOP, HASTY.replace("while 1", "while 13")):
            self.no(replaced(WRONG, 2, text), (999999937, 1))
        self.no(replaced(WRONG, 1, sample_loop()), (999999937, 1))
        self.no(replaced(WRONG, 2, hasty_program()), (999999937, 1))

    def test_programs_that_are_not_for_the_loop(self):
        for old, new in (("take k k", "take k x"), ("take s s@1", "take s k@1"), ("mul x k", "mul x"), ("out s", "out s s"), ("\nout s", "")):
            self.assertIn(old, HASTY)
            self.no(replaced(WRONG, 2, HASTY.replace(old, new)), (999999937, 1))
        self.yes(replaced(WRONG, 2, HASTY.replace("take k k", "take k x@1")), (999999937, 1))

    def test_papers(self):
        for paper in (
            (1, 0), (0, 0), (-97, 3), (10 ** 9 + 1, 3), (True, 3), (None, 3), ("97", 3), ((97,), 3), (97, -1), (97, 10 ** 9 + 1), (97, True), (97, False),
            (97, None), (97, "3"), (97,), (), (97, 3, 3), [97, 3], {97: 3}, Numbers(97, 3), Texts(), "ab", ((97, 3),), (97, 3, 1, 1),
        ):
            with self.subTest(paper=paper):
                self.no(WRONG, paper)

    def test_worlds_that_do_not_show_it(self):
        shown = set()
        for modulus in (2, 3, 5):
            for seed in range(12):
                told = is_shown(LOOP, HASTY, 1, ("out", 0), modulus, seed)
                shown.add(told)
                self.assertIs(accepts(WRONG, (modulus, seed)), told)
        self.assertEqual(shown, {True, False})

    def test_claims_about_programs_that_are_right(self):
        for seed in range(30):
            for where in (("out", 0), ("cell", "B", 0), ("cell", "A", 0)):
                self.no(("wrong", LOOP, GOOD, seed % 5, where), (999999937, seed))

    def test_made_programs(self):
        rng = random.Random(61)
        shown = {True: 0, False: 0}
        while sum(shown.values()) < 250:
            loop = makers.some_loop(rng, ("work", "load", "store"))
            text = makers.bent(rng, rng.choice((makers.plain(loop), makers.at_once(loop, 2, 0))))
            try:
                first_wrong(Loop(loop), Program(text))
            except (InvalidText, UnknownInput, OtherWords, OtherOuts):
                continue
            count, modulus, seed = rng.randrange(8), rng.choice((2, 7, 999999937)), rng.randrange(3)
            where = first_error(loop, text, count) or ("cell", rng.choice("ABC"), rng.randrange(-2, 9))
            if rng.random() < 0.3:
                where = ("cell", rng.choice("ABC"), rng.randrange(-2, 9))
            told = is_shown(loop, text, count, where, modulus, seed)
            shown[told] += 1
            with self.subTest(loop=loop, program=text, count=count, where=where):
                self.assertIs(accepts(("wrong", loop, text, count, where), (modulus, seed)), told)
        self.assertGreater(min(shown.values()), 40)


class BeyondTest(CheckerCase):
    def test_good_papers(self):
        self.yes(BEYOND, ())
        for count in range(61):
            for index in (count - 1, count, count + 1):
                self.assertIs(accepts(("beyond", LOOP, HASTY, count, "A", index), ()), count > 0 and index == count)
        stored = GOOD.replace("out s", "store C -4 s\nout s")
        self.yes(("beyond", LOOP, stored, 0, "C", -4), ())
        self.yes(("beyond", LOOP, stored, 60, "C", 56), ())

    def test_counts_and_cells(self):
        for count in (61, -1, True, False, None, "1", (1,), [1], 10 ** 39):
            self.no(replaced(BEYOND, 3, count), ())
            self.no(replaced(replaced(BEYOND, 3, count), 5, 61), ())
        for letter in ("a", "", "AB", "Z", "C", None, True, ("A",), ["A"], 1):
            self.no(replaced(BEYOND, 4, letter), ())
        for index in (True, False, None, "1", (1,), 2, 10 ** 39, -(10 ** 39)):
            self.no(replaced(BEYOND, 5, index), ())

    def test_cells_that_the_loop_touches(self):
        for index in (-1, 0, 1, 2, 3):
            self.no(("beyond", LOOP, GOOD, 3, "A", index), ())
            self.no(("beyond", LOOP, GOOD, 3, "B", index), ())
        self.no(("beyond", LOOP, HASTY, 3, "A", 2), ())
        self.yes(("beyond", LOOP, HASTY, 3, "A", 3), ())

    def test_papers(self):
        for paper in OTHERS + (WORLD, NEEDED_PAPER, "", [], {}, ((),), (None,)):
            if not (isinstance(paper, tuple) and paper == ()):
                self.no(BEYOND, paper)

    def test_texts(self):
        for text in OTHERS + (LOOP + "\n", GOOD):
            self.no(replaced(BEYOND, 1, text), ())
        for text in OTHERS + (HASTY + "\n", LOOP, HASTY.replace("out s", "out s s"), HASTY.replace("take k k", "take k q")):
            self.no(replaced(BEYOND, 2, text), ())

    def test_values_that_double_with_each_turn(self):
        loop = "x = mul x@1 x@1\nout x"
        begun = time.perf_counter()
        self.yes(("beyond", loop, plain(Loop(loop)).text.replace("step 1", "q = load A 0\nstep 1"), 60, "A", 59), ())
        self.assertLess(time.perf_counter() - begun, 5)


class NeededTest(CheckerCase):
    def test_good_papers(self):
        self.yes(NEEDED, NEEDED_PAPER)
        lines = GOOD.split("\n")
        for index in range(len(lines)):
            shorter = "\n".join(lines[:index] + lines[index + 1:])
            for count in (0, 1, 2, 60):
                for where in (("out", 0), ("cell", "B", 0)):
                    told = lines[index][:2] in ("x ", "y ", "s ", "st") and lines[index] != "step 1" and is_shown(LOOP, shorter, count, where, *WORLD)
                    self.assertIs(accepts(("needed", LOOP, GOOD, index), (count, where) + WORLD), told)
        # Also if the program with the line is wrong.
        self.yes(("needed", LOOP, HASTY, 5), (1, ("out", 0)) + WORLD)

    def test_copies(self):
        text = plain(sample_loop()).text
        index = text.split("\n").index("sa = s")
        self.yes(("needed", LOOP, text, index), (1, ("out", 0)) + WORLD)

    def test_lines_that_are_not_needed(self):
        text = GOOD.replace("step 1\nend\nout", "q = k\nstep 1\nend\nout")
        index = text.split("\n").index("q = k")
        for count in range(5):
            self.no(("needed", LOOP, text, index), (count, ("out", 0)) + WORLD)
        # A line that makes the program wrong is not needed either.
        text = GOOD.replace("out s", "s = k\nout s")
        self.yes(("wrong", LOOP, text, 1, ("out", 0)), WORLD)
        self.no(("needed", LOOP, text, text.split("\n").index("s = k")), (1, ("out", 0)) + WORLD)

    def test_indexes(self):
        for index in (-1, 17, 18, 10 ** 39, -(10 ** 39), True, False, None, "5", (5,), [5], 0, 1, 2, 4, 9, 10, 14, 15, 16):
            for count in (1, 2):
                self.no(replaced(NEEDED, 3, index), (count, ("out", 0)) + WORLD)

    def test_lines_without_which_there_is_no_program(self):
        self.no(("needed", "in k\nstore A 0 k", "take k k\nif 1\nend\nstore A 0 k", -1), (1, ("cell", "A", 0)) + WORLD)
        self.no(("needed", "in k\nstore A 0 k", "take k k\nstore A 0 k", 1), (0, ("cell", "A", 0)) + WORLD)
        self.yes(("needed", "in k\nstore A 0 k", "take k k\nif 1\nstore A 0 k\nend", 2), (1, ("cell", "A", 0)) + WORLD)

    def test_papers(self):
        for at, values in (
            (0, (61, -1, True, None, "2", (2,), 0)), (1, (["out", 0], ("out", 1), ("out", True), None, (), ("cell", "b", 0), ("cell", "Z", 0))),
            (2, (1, 10 ** 9 + 1, True, None, "97")), (3, (-1, 10 ** 9 + 1, True, None, "3")),
        ):
            for value in values:
                with self.subTest(at=at, value=value):
                    self.no(NEEDED, replaced(NEEDED_PAPER, at, value))
        for paper in OTHERS + (list(NEEDED_PAPER), NEEDED_PAPER[:3], NEEDED_PAPER + (1,), WORLD, (NEEDED_PAPER,), (2, ("out", 0), WORLD)):
            self.no(NEEDED, paper)

    def test_texts(self):
        for text in OTHERS + (LOOP + "\n", GOOD):
            self.no(replaced(NEEDED, 1, text), NEEDED_PAPER)
        for text in OTHERS + (GOOD + "\n", LOOP, GOOD.replace("out s", "out s s"), GOOD.replace("take k k", "take k q")):
            self.no(replaced(NEEDED, 2, text), NEEDED_PAPER)
        # The program with the line must be for the loop, too: here the line has a word of its own.
        other = GOOD.replace("x = load A 1\n", "x = load A 1\nq = add s\n")
        self.no(("needed", LOOP, other, 7), (2, ("out", 0)) + WORLD)


class AnythingTest(CheckerCase):
    def test_claims(self):
        for claim, paper in ((WRONG, WORLD), (BEYOND, ()), (NEEDED, NEEDED_PAPER)):
            self.yes(claim, paper)
            for given in OTHERS:
                with self.subTest(given=given):
                    self.no(given, paper)
                    self.no(claim, given if given != paper else None)
                    for at in range(len(claim)):
                        if not (type(given) is type(claim[at]) and given == claim[at]):
                            self.no(replaced(claim, at, given), paper)
            for other in (list(claim), claim[:-1], claim + (0,), (claim,), claim[1:], replaced(claim, 0, claim[0].upper()), replaced(claim, 0, (claim[0],))):
                self.no(other, paper)
            for kind in ("wrong", "beyond", "needed", "right", "", b"wrong"):
                if kind != claim[0]:
                    self.no(replaced(claim, 0, kind), paper)

    def test_papers_of_other_kinds(self):
        papers = {WRONG: WORLD, BEYOND: (), NEEDED: NEEDED_PAPER}
        for claim in papers:
            for other in papers:
                self.assertIs(accepts(claim, papers[other]), claim == other)

    def test_values_whose_comparison_fails(self):
        class Stubborn:
            def __eq__(self, other):
                raise KeyError

            def __hash__(self):
                raise KeyError

            def __bool__(self):
                raise KeyError

            def __len__(self):
                raise KeyError

        given = Stubborn()
        for claim, paper in ((WRONG, WORLD), (BEYOND, ()), (NEEDED, NEEDED_PAPER)):
            self.no(given, paper)
            self.no(claim, given)
            for at in range(len(claim)):
                self.no(replaced(claim, at, given), paper)
            for at in range(len(paper)):
                self.no(claim, replaced(paper, at, given))
        self.no(replaced(WRONG, 4, (given, 0)), WORLD)
        self.no(replaced(WRONG, 4, ("out", given)), WORLD)
        self.no(replaced(WRONG, 4, ("cell", given, 0)), WORLD)

    def test_nothing_is_changed(self):
        claim, paper = ["wrong", LOOP, [HASTY], {"a": 1}, ("out", [0])], [97, [3]]
        accepts(claim, paper)
        accepts(tuple(claim), tuple(paper))
        self.assertEqual((claim, paper), (["wrong", LOOP, [HASTY], {"a": 1}, ("out", [0])], [97, [3]]))

    def test_counts_are_no_integers(self):
        self.no(replaced(WRONG, 3, Counts((1,))), WORLD)


class SoonTest(CheckerCase):
    def test_long_claims_are_told_within_seconds(self):
        loop = "in k\n" + "\n".join(f"{name} = f {name}@3 {other}@2 k" for name, other in zip("abcdefgh", "bcdefgha")) + "\nout a h"
        program = plain(Loop(loop)).text
        longer = program.replace("step 1\n", "q = f q q q\n" * 300 + "step 1\n")
        begun = time.perf_counter()
        self.no(("wrong", loop, longer, 60, ("out", 1)), (999999937, 0))
        self.no(("beyond", loop, longer, 60, "A", 0), ())
        self.no(("needed", loop, longer, longer.split("\n").index("q = f q q q")), (60, ("out", 1), 999999937, 0))
        self.assertLess(time.perf_counter() - begun, 10)


if __name__ == "__main__":
    unittest.main()
