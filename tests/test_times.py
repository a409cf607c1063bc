import random
import time
import unittest

import makers
import strange
from plainly import Numbered, program_end
from overlapturns.errors import InvalidCost, InvalidNumber, InvalidText, NotAForm, NotAProgram, NotCosts
from overlapturns.loops import Loop
from overlapturns.made import ahead, plain, unrolled
from overlapturns.programs import Program
from overlapturns.samples import hasty_program, sample_loop, sample_program
from overlapturns.times import Costs, Form, never_more, never_more_from, time_of
from overlapturns.worlds import Numbers

NAMES = ("works", "loads", "stores", "copies", "steps", "tests")
NO_COST = (-1, 1001, True, False, None, "1", "", (), (1,), [1], {}, object(), 10 ** 39, -10 ** 39, Numbers(97, 3))
NO_NUMBERS = (-1, -10 ** 39, True, False, None, "1", "", (), (1,), [1], {}, object(), Numbers(97, 3), sample_loop())
NO_FORMS = strange.ANYTHING + (Costs(), Form, sample_program(), (time_of(sample_program()),))

THREE_DEEP = (
    "if 2\nif 4\nif 6\na = f a\nelse\nb = load A 0\nb = load A 1\nend\nelse\nif 3\nend\nend\nelse\nif 1\nelse\nstore B 0 a\nend\nend\n"
    "while 3\nstep 1\na = b\nstep 2\nend\nif 0\nwhile 1\nc = h a b c\nstep 1\nend\nelse\nc = c\nend"
)
ALL_STEPS = "\n".join(
    f"while {bound}\n" + "a = f a\n" * bound + steps + "end"
    for bound, steps in ((12, "step 4\nstep 4\n"), (10, "step 4\nstep 3\n"), (3, "step 1\nstep 1\n"), (1, "step 1\n"))
)


def spent(text, count, row):
    """The time that the lines which are gone through, and the looks, take by these costs."""
    return sum(cost * many for cost, many in zip(row, program_end(text, count, Numbered()).kinds))


def costs_of(row):
    return Costs(**dict(zip(NAMES, row)))


class CostsTest(unittest.TestCase):
    def test_properties(self):
        costs = Costs()
        self.assertEqual([getattr(costs, name) for name in NAMES], [1, 1, 1, 1, 1, 1])
        for at, name in enumerate(NAMES):
            for cost in (0, 1, 7, 1000):
                costs = Costs(**{name: cost})
                self.assertEqual([getattr(costs, other) for other in NAMES], [1] * at + [cost] + [1] * (5 - at))
        costs = Costs(tests=6, steps=5, copies=4, stores=3, loads=2, works=1)
        self.assertEqual([getattr(costs, name) for name in NAMES], [1, 2, 3, 4, 5, 6])

    def test_by_name_alone(self):
        for given in ((1,), (1, 1, 1, 1, 1, 1), (None,)):
            with self.assertRaises(TypeError):
                Costs(*given)
        with self.assertRaises(TypeError):
            Costs(work=1)

    def test_no_costs(self):
        for at, name in enumerate(NAMES):
            for given in NO_COST:
                with self.subTest(name=name, given=given), self.assertRaises(InvalidCost) as caught:
                    Costs(**{name: given})
                self.assertIs(caught.exception.given, given)
                # The first one in the order of the parameters is told.
                others = {other: "later" for other in reversed(NAMES[at + 1:])}
                with self.assertRaises(InvalidCost) as caught:
                    Costs(**others, **{name: given})
                self.assertIs(caught.exception.given, given)

    def test_equality(self):
        self.assertEqual(Costs(), Costs(works=1, tests=1))
        self.assertEqual(Costs(loads=3, steps=0), Costs(steps=0, loads=3))
        for name in NAMES:
            self.assertNotEqual(Costs(), Costs(**{name: 0}))
            self.assertTrue(Costs() != Costs(**{name: 2}))
        self.assertNotEqual(Costs(works=2), Costs(loads=2))
        for other in strange.ANYTHING + (time_of(sample_program()), (1, 1, 1, 1, 1, 1)):
            self.assertFalse(Costs() == other)
            self.assertTrue(Costs() != other)
            self.assertFalse(other == Costs())


class TimeTest(unittest.TestCase):
    def check(self, text, row=(1, 1, 1, 1, 1, 1), counts=tuple(range(31)) + (57, 144, 400)):
        form = time_of(Program(text), costs_of(row))
        self.assertEqual([form(count) for count in counts], [spent(text, count, row) for count in counts])
        return form

    def test_examples_of_the_document(self):
        form = time_of(sample_program())
        told = [form(0), form(1), form(10), form(10 ** 30) - 6 * 10 ** 30, form.rise, time_of(sample_program(), Costs(works=0, tests=10)).rise]
        self.assertEqual(told, [1, 7, 61, 1, (6, 1), (13, 1)])
        told = [never_more(form, form), never_more_from(form + form, form), (form - form).rise, never_more(form - form, form)]
        self.assertEqual(told, [True, None, (0, 1), True])

    def test_programs_of_all_kinds(self):
        for text in (
            THREE_DEEP, ALL_STEPS, "step 1", "a = b", "if 5\nend", "if 0\nelse\na = b\nend", "if 3\nelse\nend\nif 4\na = b\nelse\nend",
            "take a k\ntake b x@1\nstep 4\nout a", "while 12\nstep 1\nend", "while 1\nstep 4\nstep 4\nend\nif 0\na = b\nelse\na = f b\nend",
            "step 4\n" * 20 + "if 12\na = b\nend\nwhile 7\nstep 3\na = load A 0\nend", sample_program().text, hasty_program().text,
        ):
            for row in ((1, 1, 1, 1, 1, 1), (0, 0, 0, 0, 0, 1), (1, 0, 0, 0, 0, 0), (7, 11, 13, 17, 19, 1000), (0, 0, 0, 0, 0, 0)):
                with self.subTest(text=text, row=row):
                    self.check(text, row, tuple(range(31)) + (79, 80, 81, 91, 92, 100, 399, 400))

    def test_each_kind_has_its_cost(self):
        text = "take b k\nwhile 1\na = f b\na = load A 0\na = load A 1\nstore B 0 a\nstore B 1 a\nstore B 2 a\na = b\na = b\na = b\na = b\nstep 1\nend\nout a"
        for name, many in zip(NAMES, (1, 2, 3, 4, 1, 1)):
            costs = {other: 0 for other in NAMES}
            costs[name] = 100
            form = time_of(costs=Costs(**costs), program=Program(text))
            self.assertEqual(form.rise, (100 * many, 1))
            self.assertEqual([form(0), form(5)], [100 if name == "tests" else 0, 500 * many + (100 if name == "tests" else 0)])

    def test_takes_and_results_cost_nothing(self):
        self.assertEqual(time_of(Program("take a k\ntake b c\nif 1\nend\nout a b")), time_of(Program("if 1\nend")))
        self.assertEqual(time_of(Program("take a k\nif 1\nend\nout a"))(7), 1)

    def test_kinds_of_runs(self):
        rng = random.Random(31)
        done = 0
        while done < 60:
            loop = makers.some_loop(rng, ("work", "load", "store"))
            text = rng.choice((makers.plain(loop), makers.at_once(loop, 3, 1), makers.guarded(loop, 2, 5), makers.begun(loop, 4, 2), THREE_DEEP))
            for _ in range(rng.randrange(4)):
                text = makers.bent(rng, text)
            try:
                program = Program(text)
            except InvalidText:
                continue
            done += 1
            row = tuple(rng.choice((0, 1, 2, 9, 1000)) for _ in range(6))
            with self.subTest(text=text, row=row):
                form = self.check(text, row)
                for count in (0, 3, 8, 400):
                    kinds = program.run(count, Numbers(2, 0)).kinds
                    self.assertEqual(form(count), sum(cost * many for cost, many in zip(row, kinds)))

    def test_great_counts(self):
        for steps, works in ((1, 1), (3, 2), (7, 5), (8, 0)):
            stepped = "".join(f"step {part}\n" for part in (4, steps - 4) if part > 0) if steps > 4 else f"step {steps}\n"
            text = "a = f a\n" * 3 + f"while {steps}\n" + "a = f a\n" * works + stepped + "end\nwhile 1\nb = a\nb = a\nstep 1\nend"
            form = self.check(text)
            for count in (10 ** 29, 10 ** 29 + 1, 123456789 ** 3 * 7 + 5, 10 ** 39):
                goings, left = divmod(count, steps)
                self.assertEqual(form(count), 3 + goings * (works + stepped.count("step") + 1) + 1 + 4 * left + 1)

    def test_rises(self):
        for text, rise in (
            ("a = b", (0, 1)), ("while 1\nstep 1\nend", (2, 1)), ("while 1\nstep 2\nend", (1, 1)), ("while 1\nstep 3\nend", (2, 3)),
            ("while 4\na = b\nstep 4\nstep 4\nend", (1, 2)), ("while 9\nstep 1\nstep 1\nstep 4\nend", (2, 3)), ("step 4\nif 3\nend", (0, 1)),
            ("while 2\nstep 2\na = b\na = b\nend\nwhile 1\nstep 1\nend", (2, 1)), ("while 1\nstep 4\nstep 3\nend", (3, 7)),
        ):
            form = time_of(Program(text))
            self.assertEqual(form.rise, rise)
            self.assertEqual(repr(form), f"Form({rise[0]}/{rise[1]} a turn)")
        self.assertEqual(time_of(Program("while 1\nstep 1\nend"), costs_of((1, 1, 1, 1, 0, 0))).rise, (0, 1))
        self.assertEqual(time_of(unrolled(Loop("x = f x@1\nout x"), 2)).rise, (7, 2))

    def test_none_stands_for_costs_of_one(self):
        for program in (sample_program(), Program(THREE_DEEP)):
            self.assertEqual(time_of(program), time_of(program, Costs()))
            self.assertEqual(time_of(program, None), time_of(program, costs=Costs(works=1)))
            self.assertNotEqual(time_of(program), time_of(program, Costs(tests=2)))


def form_of(text, **costs):
    return time_of(Program(text), Costs(**{**{name: 0 for name in NAMES}, **costs}))


def some_forms(rng, many):
    forms = []
    while len(forms) < many:
        loop = makers.some_loop(rng, ("work", "load", "store"))
        text = rng.choice((makers.plain(loop), makers.at_once(loop, rng.randrange(2, 5), 1), makers.guarded(loop, 2, 5), THREE_DEEP, ALL_STEPS))
        try:
            program = Program(makers.bent(rng, text))
        except InvalidText:
            continue
        form = time_of(program, costs_of(tuple(rng.choice((0, 1, 2, 5)) for _ in range(6))))
        for _ in range(rng.randrange(3)):
            form = rng.choice((form + form, form - rng.choice(forms or [form]), form + rng.choice(forms or [form])))
        forms.append(form)
    return forms


class FormTest(unittest.TestCase):
    def test_sums_and_differences(self):
        forms = some_forms(random.Random(32), 40)
        for one, other in zip(forms, forms[1:]):
            for sign, form in ((1, one + other), (-1, one - other)):
                counts = list(range(60)) + [840, 10 ** 6, 10 ** 30 + 7]
                self.assertEqual([form(count) for count in counts], [one(count) + sign * other(count) for count in counts])
                (top, bottom), (left, under) = one.rise, other.rise
                self.assertEqual(form.rise[0] * bottom * under, form.rise[1] * (top * under + sign * left * bottom))
                self.assertGreaterEqual(form.rise[1], 1)
        first, second = forms[:2]
        before = [first(count) for count in range(20)]
        first + second
        first - second
        self.assertEqual([first(count) for count in range(20)], before)

    def test_lowest_terms_of_sums(self):
        third, half = form_of("while 3\nstep 3\nend", steps=1), form_of("while 2\nstep 2\nend", steps=1)
        self.assertEqual([form.rise for form in (third, half, third + half, third - half, half - third)], [(1, 3), (1, 2), (5, 6), (-1, 6), (1, 6)])
        self.assertEqual([(half + half).rise, (third + third + third).rise, (half - half).rise, (third - half - half).rise], [(1, 1), (1, 1), (0, 1), (-2, 3)])
        self.assertEqual([repr(third - half), repr(half + half), repr(half - half)], ["Form(-1/6 a turn)", "Form(1/1 a turn)", "Form(0/1 a turn)"])
        eights = [form_of(f"while {size}\n" + "".join(f"step {part}\n" for part in ((4, size - 4) if size > 4 else (size,))) + "end", tests=1) for size in range(1, 9)]
        total = eights[0]
        for form in eights[1:]:
            total = total + form
        self.assertEqual(total.rise, (761, 280))
        self.assertEqual(total(10 ** 30), sum(10 ** 30 // size + 1 for size in range(1, 9)))

    def test_equality_by_all_values(self):
        one = form_of("while 1\na = f a\nstep 1\nend", works=1)
        two = form_of("while 2\na = f a\na = f a\nstep 2\nend\nif 1\na = f a\nend", works=1)
        three = form_of("if 12\nwhile 3\nb = a\nb = a\nb = a\nstep 3\nend\nend\nwhile 1\nb = a\nstep 1\nend", copies=1)
        self.assertEqual(one, two)
        self.assertEqual(two, three)
        self.assertEqual(one + one, two + three)
        self.assertEqual(one - two, three - one)
        self.assertFalse(one != three)
        for count in (0, 1, 5, 11):
            other = form_of(f"if {count}\nif {count + 1}\nelse\na = f a\nend\nend\nwhile 1\na = f a\nstep 1\nend", works=1)
            self.assertNotEqual(one, other)
            self.assertTrue(other != one)
            self.assertEqual([at for at in range(60) if one(at) != other(at)], [count])
            self.assertEqual(other + one - other, one)
        self.assertNotEqual(one, one + one)
        self.assertNotEqual(form_of("a = b", copies=1), form_of("a = b", copies=2))
        for other in strange.ANYTHING + (Costs(), sample_program(), Form):
            self.assertFalse(one == other)
            self.assertTrue(one != other)
            self.assertFalse(other == one)

    def test_equality_of_forms_of_all_sorts(self):
        forms = some_forms(random.Random(33), 30)
        told = [[form(count) for count in range(1800)] for form in forms]
        for form, values in zip(forms, told):
            for other, others in zip(forms, told):
                self.assertIs(form == other, values == others)

    def test_no_numbers(self):
        form = time_of(sample_program())
        for given in NO_NUMBERS:
            with self.subTest(given=given), self.assertRaises(InvalidNumber) as caught:
                form(given)
            self.assertIs(caught.exception.given, given)
        self.assertEqual(form(number=10), 61)

    def test_no_forms_as_operands(self):
        form = time_of(sample_program())
        for given in NO_FORMS:
            for deed in (lambda: form + given, lambda: form - given):
                with self.subTest(given=given), self.assertRaises(NotAForm) as caught:
                    deed()
                self.assertIs(caught.exception.given, given)


class NeverMoreTest(unittest.TestCase):
    def check(self, form, other, upto):
        """Compare with the values up to a count behind which nothing changes any more."""
        more = [count for count in range(upto) if form(count) > other(count)]
        told = never_more_from(form, other)
        if told is None:
            self.assertGreater(more[-1], upto - 900)
        else:
            self.assertEqual(told, more[-1] + 1 if more else 0)
        self.assertIs(never_more(form, other), told == 0)
        return told

    def test_forms_that_cross(self):
        slow = form_of("while 1\na = f a\nstep 1\nend", works=1)
        for start in (1, 2, 50):
            begun = form_of("b = a\n" * start + "while 2\na = f a\nstep 2\nend", works=1, copies=1)
            self.assertEqual(self.check(begun, slow, 400), 2 * start - 1)
            self.assertIsNone(self.check(slow, begun, 400))

    def test_forms_that_cross_at_great_counts(self):
        # 300 copies of 1000 each at first, then 8 against 7 in eight turns.
        fast = form_of("b = a\n" * 300 + "while 8\n" + "a = f a\n" * 7 + "step 4\nstep 4\nend\nwhile 1\na = f a\nstep 1\nend", works=1, copies=1000)
        slow = form_of("while 1\na = f a\nstep 1\nend", works=1)
        self.assertEqual(never_more_from(fast, slow), 8 * 300000)
        self.assertIs(never_more(fast, slow), False)
        self.assertIsNone(never_more_from(slow, fast))
        for near in (8 * 300000 - 1, 8 * 300000):
            self.assertIs(fast(near) <= slow(near), near == 8 * 300000)
        much = fast
        for _ in range(20):
            much = much + much
        more = slow
        for _ in range(20):
            more = more + more
        self.assertEqual(never_more_from(much, more), 8 * 300000)
        self.assertEqual(never_more_from(much + slow, more + slow + slow), never_more_from(much, more + slow))

    def test_forms_above_and_below_one_another_with_a_period(self):
        one = form_of("while 2\nb = a\nb = a\nstep 2\nend\nif 1\nend", copies=1)
        two = form_of("while 1\nb = a\nstep 1\nend", copies=1)
        self.assertEqual(self.check(one, two, 60), 0)
        self.assertIsNone(self.check(two, one, 1000))
        three = form_of("while 3\nb = a\nb = a\nb = a\nstep 3\nend\nwhile 1\nb = a\nb = a\nstep 1\nend", copies=1)
        self.assertIsNone(self.check(three, two, 1000))
        self.assertEqual(self.check(two, three, 1000), 0)
        self.assertIsNone(self.check(one + one, two + three - two, 1000))
        self.assertIsNone(self.check(three, one, 1000))

    def test_forms_with_the_same_rise(self):
        one = form_of("while 1\nb = a\nstep 1\nend", copies=1)
        for many in (1, 3):
            two = form_of("if 5\n" + "b = a\n" * many + "end\nwhile 1\nb = a\nstep 1\nend", copies=1)
            self.assertEqual(self.check(one, two, 60), 0)
            self.assertIsNone(self.check(two, one, 1000))
            three = form_of("if 5\nelse\n" + "b = a\n" * many + "end\nwhile 1\nb = a\nstep 1\nend", copies=1)
            self.assertEqual(self.check(three, one, 60), 5)
        self.assertEqual(self.check(one, one, 60), 0)
        self.assertEqual(never_more_from(other=one, form=one), 0)
        self.assertIs(never_more(other=one, form=one + one), False)

    def test_forms_of_all_sorts(self):
        forms = some_forms(random.Random(34), 40)
        found = set()
        for one, other in zip(forms, forms[1:] + forms[:1]):
            found.add(self.check(one, other, 2600) is None)
            self.assertEqual(never_more_from(one - other, one - one), never_more_from(one, other))
        self.assertEqual(found, {True, False})

    def test_no_forms(self):
        form = time_of(sample_program())
        for deed in (never_more, never_more_from):
            for given in NO_FORMS:
                for other in (form, None, given):
                    with self.subTest(given=given), self.assertRaises(NotAForm) as caught:
                        deed(given, other)
                    self.assertIs(caught.exception.given, given)
                with self.subTest(given=given), self.assertRaises(NotAForm) as caught:
                    deed(form, given)
                self.assertIs(caught.exception.given, given)


class WrongInputsTest(unittest.TestCase):
    def test_no_programs_and_no_costs(self):
        for given in strange.NO_PROGRAMS:
            for costs in (None, Costs(), 3):
                with self.subTest(given=given), self.assertRaises(NotAProgram) as caught:
                    time_of(given, costs)
                self.assertIs(caught.exception.given, given)
        for given in strange.ANYTHING + ((1, 1, 1, 1, 1, 1), {"works": 1}, Costs, time_of(sample_program())):
            if given is not None:
                with self.subTest(given=given), self.assertRaises(NotCosts) as caught:
                    time_of(sample_program(), given)
                self.assertIs(caught.exception.given, given)


class SoonTest(unittest.TestCase):
    def test_long_ones_are_told_within_seconds(self):
        long = "step 4\n" * 190 + "a = f a\n" * 100 + "if 12\n" + "step 1\n" * 40 + "else\nwhile 1\nstep 1\n" + "a = f a\n" * 40 + "end\nend\nwhile 12\nstep 4\nstep 3\nend"
        begun = time.perf_counter()
        form = time_of(Program(long))
        self.assertEqual([form(count) for count in (0, 7, 100, 400)], [spent(long, count, (1,) * 6) for count in (0, 7, 100, 400)])
        eight = Loop("\n".join(f"{name} = f {name}@3" for name in "abcdefgh") + "\nout a h")
        total = form
        for program in (plain(eight), unrolled(eight, 3), unrolled(eight, 4), ahead(eight, 3), Program("while 1\nstep 4\nstep 3\nend"), Program("while 1\nstep 4\nstep 1\nend")):
            total = total + time_of(program)
        self.assertEqual((total + total) - total, total)
        never_more_from(total, form)
        self.assertLess(time.perf_counter() - begun, 10)


if __name__ == "__main__":
    unittest.main()
