import random
import time
import unittest

import makers
import strange
import test_mending
from plainly import first_wrong_run, program_end, shared, Numbered
from overlapturns.books import Book
from overlapturns.counts import Counts
from overlapturns.errors import InUse, InvalidName, InvalidNumber, InvalidWish, NotALoop, NotAProgram, NotKept, NothingToUndo, OtherOuts
from overlapturns.errors import OtherWords, UnknownInput, UnknownName
from overlapturns.judging import first_wrong
from overlapturns.loops import Loop
from overlapturns.made import ahead, plain, unrolled
from overlapturns.programs import Program
from overlapturns.samples import hasty_program, sample_loop, sample_program
from overlapturns.touching import first_beyond
from overlapturns.worlds import Texts

RIGHT, WITHIN = ("right", "sum"), ("within", "sum")
# Strings that are no names, and values that are no strings.
NO_NAMES = (
    "", "in", "out", "load", "store", "take", "step", "if", "else", "while", "end", "abcdefghi", "Sum", "sUM", "a1", "a b", " a", "a\n", "x@1", "a_b", "~",
    None, True, False, 0, 1, -1, 10 ** 39, (), ("sum",), ["sum"], {}, {"sum": 1}, object(), b"sum", sample_loop(), Texts(), Counts(), ("a", ("b", ["c"])),
)
LOADED = Loop("x = load A 0\nstore B 0 x\nout x")
FETCHED = Program("take x x@1\ny = load A 0\nwhile 1\nx = y\ny = load A 1\nstore B 0 x\nstep 1\nend\nout x")


def state(book):
    """All that a book tells."""
    return (book.names, book.wishes, book.changes, [book[name] for name in book.names])


def sample_book():
    book = Book()
    book.put("sum", sample_loop(), sample_program())
    return book


class BookCase(unittest.TestCase):
    def refused(self, kind, book, deed, **told):
        """See that a deed raises an error of a kind, with what it tells, and that the book is as before."""
        before = state(book)
        with self.assertRaises(kind) as caught:
            deed()
        self.assertEqual(vars(caught.exception), told)
        self.assertEqual(state(book), before)

    def kept(self, book, deed):
        """See that a deed makes one change and returns None."""
        before = book.changes
        self.assertIsNone(deed())
        self.assertEqual(book.changes, before + 1)


class PairsTest(BookCase):
    def test_example_of_the_document(self):
        book = Book()
        book.put("sum", sample_loop(), sample_program())
        book.wish(("right", "sum"))
        book.wish(("over", "sum", "A", "B", -2))
        told = [book.names, len(book.wishes), book.changes, "sum" in book, book["sum"][0] == sample_loop()]
        self.assertEqual(told, [("sum",), 2, 3, True, True])
        self.refused(NotKept, book, lambda: book.put("sum", sample_loop(), hasty_program()), index=0, shown=(1, ("out", 0)))

    def test_empty_book(self):
        book = Book()
        self.assertEqual((book.names, book.wishes, book.changes), ((), (), 0))
        self.assertTrue(book)
        for given in NO_NAMES + ("sum",):
            self.assertIs(given in book, False)

    def test_put_and_drop(self):
        book = Book()
        for name in ("zz", "a", "sum", "abcdefgh", "inn"):
            self.kept(book, lambda: book.put(name, sample_loop(), sample_program()))
            self.assertIs(name in book, True)
        self.assertEqual(book.names, ("a", "abcdefgh", "inn", "sum", "zz"))
        self.assertEqual(book["a"], (sample_loop(), sample_program()))
        self.assertIsInstance(book["a"], tuple)
        self.kept(book, lambda: book.put("a", LOADED, FETCHED))
        self.assertEqual(book["a"], (LOADED, FETCHED))
        self.assertEqual(book["zz"], (sample_loop(), sample_program()))
        self.kept(book, lambda: book.drop("a"))
        self.assertEqual(book.names, ("abcdefgh", "inn", "sum", "zz"))
        self.assertNotIn("a", book)
        self.refused(UnknownName, book, lambda: book["a"], given="a")
        self.assertEqual(book.changes, 7)

    def test_by_name(self):
        book = Book()
        book.put(program=sample_program(), loop=sample_loop(), name="sum")
        book.wish(wish=RIGHT)
        book.lift(index=0)
        book.drop(name="sum")
        self.assertEqual(book.tried(deed=lambda given: given.changes), 4)

    def test_programs_that_are_wrong_may_be_put(self):
        book = Book()
        book.put("hasty", sample_loop(), hasty_program())
        self.assertEqual(book["hasty"], (sample_loop(), hasty_program()))

    def test_equality_to_itself_alone(self):
        book, other = sample_book(), sample_book()
        self.assertTrue(book == book)
        self.assertFalse(book != book)
        for given in (other, Book()) + strange.ANYTHING:
            self.assertFalse(book == given)
            self.assertTrue(book != given)
            self.assertFalse(given == book)

    def test_two_books_at_once(self):
        book, other = sample_book(), Book()
        book.wish(RIGHT)
        other.put("sum", sample_loop(), hasty_program())
        self.refused(NotKept, other, lambda: other.wish(RIGHT), index=0, shown=(1, ("out", 0)))
        other.undo()
        self.assertEqual((book.names, book.wishes, book.changes), (("sum",), (RIGHT,), 2))
        self.assertEqual((other.names, other.changes), ((), 0))

    def test_no_names(self):
        book = sample_book()
        for given in NO_NAMES:
            with self.subTest(given=given):
                self.refused(InvalidName, book, lambda: book.put(given, sample_loop(), sample_program()), given=given)
                self.refused(InvalidName, book, lambda: book.put(given, None, None), given=given)
                self.refused(UnknownName, book, lambda: book[given], given=given)
                self.refused(UnknownName, book, lambda: book.drop(given), given=given)
                self.assertIs(given in book, False)
        for given in ("other", "s", "summ"):
            self.refused(UnknownName, book, lambda: book[given], given=given)
            self.refused(UnknownName, book, lambda: book.drop(given), given=given)

    def test_no_loops_and_no_programs(self):
        book = sample_book()
        book.wish(RIGHT)
        for given in strange.NO_LOOPS:
            self.refused(NotALoop, book, lambda: book.put("sum", given, given), given=given)
        for given in strange.NO_PROGRAMS:
            self.refused(NotAProgram, book, lambda: book.put("sum", sample_loop(), given), given=given)
        for text, kind, given in strange.UNFIT:
            self.refused(kind, book, lambda: book.put("sum", strange.LOOP, Program(text)), given=given)
            self.refused(InvalidName, book, lambda: book.put("Sum", strange.LOOP, Program(text)), given="Sum")

    def test_not_gone_through(self):
        with self.assertRaises(TypeError):
            iter(sample_book())


class WishesTest(BookCase):
    def test_right(self):
        book = sample_book()
        self.kept(book, lambda: book.wish(RIGHT))
        self.kept(book, lambda: book.wish(RIGHT))
        self.assertEqual(book.wishes, (RIGHT, RIGHT))
        for at, line in ((4, "while 3"), (8, "store B 1 s"), (0, "take s s@2")):
            wrong = sample_program().put(at, line)
            shown = first_wrong(sample_loop(), wrong)
            self.refused(NotKept, book, lambda: book.put("sum", sample_loop(), wrong), index=0, shown=shown)
            book.put("other", sample_loop(), wrong)
            self.refused(NotKept, book, lambda: book.wish(("right", "other")), index=2, shown=shown)
        self.kept(book, lambda: book.put("sum", sample_loop(), plain(sample_loop())))

    def test_over(self):
        book = Book()
        book.put("pair", LOADED, FETCHED)
        for distance in range(-8, 9):
            wish = ("over", "pair", "A", "B", distance)
            texts = [shared(text, "A", "B", distance) for text in (LOADED.text, FETCHED.text)]
            error = first_wrong_run(*texts)
            if error is None:
                self.kept(book, lambda: book.wish(wish))
            else:
                self.refused(NotKept, book, lambda: book.wish(wish), index=len(book.wishes), shown=error)
            turned = ("over", "pair", "B", "A", -distance)
            if error is None:
                self.kept(book, lambda: book.wish(turned))
            else:
                self.refused(NotKept, book, lambda: book.wish(turned), index=len(book.wishes), shown=error)
        self.assertEqual(len(book.wishes), 32)

    def test_over_tells_cells_by_the_first_of_their_names(self):
        loop = Loop("x = load D 0\nstore C 2 x\nstore B 0 x")
        program = Program("while 1\ny = load D 0\nx = load D 1\nstore C 2 y\nstore B 0 x\nstep 1\nend")
        book = Book()
        book.put("a", loop, program)
        for one, other, distance, cell in (
            ("D", "C", 0, ("B", 0)), ("B", "C", 1, ("B", 0)), ("C", "B", -2, ("B", 0)), ("A", "B", 3, ("A", 3)), ("B", "A", 3, ("A", -3)),
            ("C", "D", 5, ("B", 0)), ("D", "A", 8, ("B", 0)),
        ):
            wish = ("over", "a", one, other, distance)
            self.assertEqual(first_wrong_run(*[shared(text, one, other, distance) for text in (loop.text, program.text)]), (1, ("cell",) + cell))
            self.refused(NotKept, book, lambda: book.wish(wish), index=0, shown=(1, ("cell",) + cell))

    def test_over_holds_whether_or_not_it_is_right_otherwise(self):
        # What the second store puts is only stored at the same place if the arrays lie so.
        loop = Loop("in k\nstore A 1 k")
        program = Program("take k k\nwhile 1\nstore B 0 k\nstep 1\nend")
        book = Book()
        book.put("a", loop, program)
        self.refused(NotKept, book, lambda: book.wish(("right", "a")), index=0, shown=(1, ("cell", "A", 1)))
        self.kept(book, lambda: book.wish(("over", "a", "A", "B", 1)))
        self.kept(book, lambda: book.wish(("over", "a", "B", "A", -1)))
        self.refused(NotKept, book, lambda: book.wish(("over", "a", "A", "B", 0)), index=2, shown=(1, ("cell", "A", 0)))
        self.refused(NotKept, book, lambda: book.wish(("over", "a", "B", "A", 1)), index=2, shown=(1, ("cell", "A", -1)))
        self.refused(NotKept, book, lambda: book.put("a", loop, program.put(2, "store C 0 k")), index=0, shown=(1, ("cell", "A", 1)))

    def test_within(self):
        book = sample_book()
        self.kept(book, lambda: book.wish(WITHIN))
        shown = first_beyond(sample_loop(), hasty_program())
        self.assertEqual(shown, (1, "A", 1))
        self.refused(NotKept, book, lambda: book.put("sum", sample_loop(), hasty_program()), index=0, shown=shown)
        book.put("hasty", sample_loop(), hasty_program())
        self.refused(NotKept, book, lambda: book.wish(("within", "hasty")), index=1, shown=shown)
        # It may be wrong as long as it touches nothing else.
        self.kept(book, lambda: book.put("sum", sample_loop(), sample_program().put(0, "take s s@2")))

    def test_never_more(self):
        book = Book()
        one = Program("while 1\na = f a\nstep 1\nend")
        two = Program("b = a\nb = a\nb = a\nwhile 2\na = f a\nstep 2\nend")
        loop = Loop("x = g x@1")
        book.put("one", loop, one)
        book.put("two", loop, two)
        self.kept(book, lambda: book.wish(("never more", "one", "one")))
        times = [[sum(program_end(text, count, Numbered()).kinds) for count in range(12)] for text in (one.text, two.text)]
        first = [next(count for count in range(12) if left[count] > right[count]) for left, right in (times, times[::-1])]
        self.assertEqual(first, [3, 0])
        self.refused(NotKept, book, lambda: book.wish(("never more", "one", "two")), index=1, shown=3)
        self.refused(NotKept, book, lambda: book.wish(("never more", "two", "one")), index=1, shown=0)
        book.put("three", Loop("in k\nx = h k k\nout x"), Program("while 1\nb = a\nb = a\nb = a\nstep 1\nend\nout b"))
        self.kept(book, lambda: book.wish(("never more", "one", "three")))
        self.refused(NotKept, book, lambda: book.put("one", loop, two), index=1, shown=0)
        self.refused(NotKept, book, lambda: book.put("three", loop, two), index=1, shown=3)
        self.refused(InUse, book, lambda: book.drop("three"), index=1)

    def test_never_more_at_great_counts(self):
        loop = Loop("x = g x@1")
        book = Book()
        book.put("fast", loop, Program("b = a\n" * 390 + "while 8\na = f a\nstep 4\nstep 4\nend"))
        book.put("slow", loop, Program("while 7\na = f a\nstep 4\nstep 3\nend"))
        told = book["fast"][1], book["slow"][1]
        with self.assertRaises(NotKept) as caught:
            book.wish(("never more", "slow", "fast"))
        count = caught.exception.shown
        # Four in seven turns against four in eight, and 390 at first.
        self.assertEqual([4 * (at // 7) > 390 + 4 * (at // 8) for at in (count - 1, count)], [False, True])
        self.assertTrue(all(4 * (at // 7) <= 390 + 4 * (at // 8) for at in range(count)))
        self.assertEqual((book["fast"][1], book["slow"][1]), told)

    def test_a_put_breaks_an_earlier_and_a_later_wish(self):
        book = sample_book()
        book.put("other", LOADED, FETCHED)
        for wish in (("right", "other"), WITHIN, RIGHT, ("never more", "sum", "sum")):
            book.wish(wish)
        self.refused(NotKept, book, lambda: book.put("sum", sample_loop(), hasty_program()), index=1, shown=(1, "A", 1))
        book.lift(1)
        self.refused(NotKept, book, lambda: book.put("sum", sample_loop(), hasty_program()), index=1, shown=(1, ("out", 0)))
        book.lift(1)
        self.kept(book, lambda: book.put("sum", sample_loop(), hasty_program()))
        self.assertEqual(book.wishes, (("right", "other"), ("never more", "sum", "sum")))

    def test_lift(self):
        book = sample_book()
        book.put("other", sample_loop(), sample_program())
        wishes = [RIGHT, WITHIN, ("right", "other"), ("over", "sum", "A", "B", 8)]
        for wish in wishes:
            book.wish(wish)
        for index in (2, 0, 1, 0):
            self.kept(book, lambda: book.lift(index))
            del wishes[index]
            self.assertEqual(book.wishes, tuple(wishes))
        self.refused(InvalidNumber, book, lambda: book.lift(0), given=0)
        book.wish(RIGHT)
        for given in (1, 2, -1, 10 ** 39, -10 ** 39, True, False, None, "0", "", (), (0,), [0], {}, object(), Texts()):
            self.refused(InvalidNumber, book, lambda: book.lift(given), given=given)
        self.kept(book, lambda: book.lift(0))

    def test_names_that_are_not_in_the_book(self):
        book = sample_book()
        for wish, given in (
            (("right", "other"), "other"), (("within", "a"), "a"), (("over", "b", "A", "B", 0), "b"), (("never more", "sum", "c"), "c"),
            (("never more", "c", "sum"), "c"), (("never more", "d", "c"), "d"),
        ):
            self.refused(UnknownName, book, lambda: book.wish(wish), given=given)

    def test_drop_of_a_name_in_use(self):
        book = sample_book()
        for name in ("b", "c", "d"):
            book.put(name, sample_loop(), sample_program())
        for wish in (("never more", "b", "c"), ("right", "c"), WITHIN, ("right", "b")):
            book.wish(wish)
        for name, index in (("b", 0), ("c", 0), ("sum", 2)):
            self.refused(InUse, book, lambda: book.drop(name), index=index)
        book.lift(0)
        for name, index in (("b", 2), ("c", 0), ("sum", 1)):
            self.refused(InUse, book, lambda: book.drop(name), index=index)
        self.kept(book, lambda: book.drop("d"))

    def test_no_wishes(self):
        book = sample_book()
        wrong = [None, True, 1, "right", "", (), ("right",), ["right", "sum"], {}, {"right": "sum"}, object(), sample_loop(), Texts(), Book(), (("right", "sum"),)]
        wrong += [("Right", "sum"), ("rights", "sum"), ("", "sum"), (None, "sum"), (("right",), "sum"), (True, "sum"), (b"right", "sum"), (["right"], "sum")]
        for kind in ("right", "within"):
            wrong += [(kind, "sum", "sum"), (kind, "sum", None), (kind, ("sum",)), [kind, "sum"], (kind, "sum", "A", "B", 1)]
            wrong += [(kind, given) for given in NO_NAMES]
        wrong += [("never more", "sum"), ("never more", "sum", "sum", "sum"), ["never more", "sum", "sum"], ("never", "more", "sum"), ("nevermore", "sum", "sum")]
        wrong += [("never more", given, "sum") for given in NO_NAMES] + [("never more", "sum", given) for given in NO_NAMES]
        wrong += [("over", "sum", "A", "B"), ("over", "sum", "A", "B", 1, 1), ["over", "sum", "A", "B", 1], ("over", "sum"), ("over", "sum", ("A", "B"), 1)]
        for letter in ("A", "B", "a", "", "AB", "1", " ", "[", "@", None, True, 1, ("A",), ["A"], object()):
            wrong.append(("over", "sum", letter, letter, 1))
            if letter not in ("A", "B"):
                wrong += [("over", "sum", letter, "B", 1), ("over", "sum", "A", letter, 1)]
        for distance in (-9, 9, True, False, None, "1", "", (1,), [1], {}, object(), 10 ** 39, -10 ** 39):
            wrong.append(("over", "sum", "A", "B", distance))
        wrong += [("over", given, "A", "B", 1) for given in NO_NAMES]
        for given in wrong:
            with self.subTest(given=given):
                self.refused(InvalidWish, book, lambda: book.wish(given), given=given)
        # Whatever its names are: also if they are not in the book.
        self.refused(InvalidWish, book, lambda: book.wish(("over", "other", "A", "A", 1)), given=("over", "other", "A", "A", 1))
        self.refused(InvalidWish, book, lambda: book.wish(("never more", "other", "In")), given=("never more", "other", "In"))

    def test_wishes_at_the_ends_of_what_they_may_be(self):
        book = sample_book()
        for wish in (("over", "sum", "A", "Z", 8), ("over", "sum", "Z", "A", -8), ("over", "sum", "Y", "Z", 0)):
            self.kept(book, lambda: book.wish(wish))
        self.assertEqual(len(book.wishes), 3)

    def test_over_with_loads_from_both(self):
        loop = Loop("x = load B 0\ny = load A 1\nstore A -1 x\nstore B 1 y")
        program = Program("while 1\ny = load A 1\nx = load B 0\nstore B 1 y\nstore A -1 x\nstep 1\nend")
        for ahead_of_them in ("", "if 2\ny = load A 1\nx = load B 0\nz = load B 1\nstore B 1 y\nstore A -1 x\ny = load A 2\nstep 1\nstore B 1 y\nstore A -1 z\nstep 1\nend\n"):
            self.distances(loop, Program(ahead_of_them + program.text))

    def test_made_programs(self):
        rng = random.Random(51)
        for _ in range(40):
            self.distances(*test_mending.some_pair(rng, ("load", "store", "work"), 12))

    def distances(self, loop, program):
        """Compare what wishes of many distances show with runs."""
        for one, other in (("A", "B"), ("B", "A"), ("B", "C"), ("C", "A")):
            book = Book()
            book.put("a", loop, program)
            for distance in range(-8, 9):
                wish = ("over", "a", one, other, distance)
                error = first_wrong_run(*[shared(side.text, one, other, distance) for side in (loop, program)], 20)
                if error is None:
                    self.kept(book, lambda: book.wish(wish))
                else:
                    self.refused(NotKept, book, lambda: book.wish(wish), index=len(book.wishes), shown=error)

    def test_made_programs_at_some_distances(self):
        rng = random.Random(52)
        for _ in range(10):
            text = makers.some_loop(rng, ("load", "store", "work"))
            loop = Loop(text)
            book = Book()
            book.put("a", loop, rng.choice((plain(loop), unrolled(loop, 3), Program(makers.begun(text, 2, 2)))))
            for distance in rng.sample(range(-8, 9), 6):
                one, other = rng.sample("ABC", 2)
                wish = ("over", "a", one, other, distance)
                error = first_wrong_run(*[shared(side.text, one, other, distance) for side in book["a"]])
                self.assertIsNone(error)
                self.kept(book, lambda: book.wish(wish))


class UndoTest(BookCase):
    def test_each_kind_of_change(self):
        book = Book()
        deeds = (
            lambda: book.put("sum", sample_loop(), sample_program()), lambda: book.put("b", LOADED, FETCHED), lambda: book.wish(RIGHT),
            lambda: book.wish(("never more", "b", "b")), lambda: book.put("sum", sample_loop(), plain(sample_loop())), lambda: book.lift(1),
            lambda: book.drop("b"), lambda: book.lift(0), lambda: book.drop("sum"), lambda: book.put("c", LOADED, FETCHED),
        )
        for _ in range(3):
            states = []
            for deed in deeds:
                states.append(state(book))
                self.kept(book, deed)
            for before in reversed(states):
                self.assertIsNone(book.undo())
                self.assertEqual(state(book), before)
            for _ in range(2):
                self.refused(NothingToUndo, book, book.undo)

    def test_undone_changes_are_gone(self):
        book = sample_book()
        book.wish(RIGHT)
        book.undo()
        self.kept(book, lambda: book.put("sum", sample_loop(), hasty_program()))
        book.undo()
        book.undo()
        self.refused(UnknownName, book, lambda: book["sum"], given="sum")
        self.refused(NothingToUndo, book, book.undo)

    def test_refused_changes_are_none(self):
        book = sample_book()
        book.wish(RIGHT)
        self.refused(NotKept, book, lambda: book.put("sum", sample_loop(), hasty_program()), index=0, shown=(1, ("out", 0)))
        self.refused(InUse, book, lambda: book.drop("sum"), index=0)
        self.assertEqual(book.changes, 2)
        book.undo()
        self.assertEqual((book.wishes, book.changes), ((), 1))

    def test_the_same_again_is_a_change(self):
        book = sample_book()
        self.kept(book, lambda: book.put("sum", *book["sum"]))
        book.undo()
        self.assertEqual((book.names, book.changes), (("sum",), 1))


class TrialTest(BookCase):
    def test_blocks_that_end_well(self):
        book = sample_book()
        with book.trial() as given:
            self.assertIs(given, book)
            given.wish(RIGHT)
            given.put("b", LOADED, FETCHED)
        self.assertEqual((book.names, book.wishes, book.changes), (("b", "sum"), (RIGHT,), 3))
        book.undo()
        self.assertEqual((book.names, book.wishes, book.changes), (("sum",), (RIGHT,), 2))

    def test_blocks_that_end_with_an_exception(self):
        for wrong in (KeyError("x"), NotKept(0, 1), UnknownName("y"), ValueError(), KeyboardInterrupt(), InvalidName("z")):
            book = sample_book()
            book.wish(WITHIN)
            before = state(book)
            with self.assertRaises(type(wrong)) as caught:
                with book.trial():
                    book.lift(0)
                    book.put("b", LOADED, FETCHED)
                    book.drop("sum")
                    raise wrong
            self.assertIs(caught.exception, wrong)
            self.assertEqual(state(book), before)
            # What was done before the block can be taken back.
            book.undo()
            self.assertEqual((book.wishes, book.changes), ((), 1))

    def test_errors_of_the_book_itself(self):
        book = sample_book()
        book.wish(RIGHT)
        before = state(book)
        with self.assertRaises(NotKept) as caught:
            with book.trial():
                book.put("b", LOADED, FETCHED)
                book.put("sum", sample_loop(), hasty_program())
        self.assertEqual((caught.exception.index, caught.exception.shown), (0, (1, ("out", 0))))
        self.assertEqual(state(book), before)
        with self.assertRaises(NothingToUndo):
            with book.trial():
                book.undo()
                book.undo()
                self.assertEqual(book.names, ())
                book.undo()
        self.assertEqual(state(book), before)

    def test_blocks_left_by_return_and_break(self):
        book = sample_book()

        def left():
            with book.trial():
                book.put("b", LOADED, FETCHED)
                return book.changes

        self.assertEqual(left(), 2)
        for name in ("c", "d"):
            with book.trial():
                book.put(name, LOADED, FETCHED)
                break
        self.assertEqual((book.names, book.changes), (("b", "c", "sum"), 3))

    def test_blocks_within_blocks(self):
        book = Book()
        with book.trial():
            book.put("a", LOADED, FETCHED)
            with self.assertRaises(KeyError):
                with book.trial():
                    book.put("b", LOADED, FETCHED)
                    with book.trial():
                        book.put("c", LOADED, FETCHED)
                    self.assertEqual(book.names, ("a", "b", "c"))
                    raise KeyError
            self.assertEqual((book.names, book.changes), (("a",), 1))
            book.put("d", LOADED, FETCHED)
        self.assertEqual((book.names, book.changes), (("a", "d"), 2))
        with self.assertRaises(KeyError):
            with book.trial():
                with book.trial():
                    book.drop("a")
                raise KeyError
        self.assertEqual((book.names, book.changes), (("a", "d"), 2))

    def test_one_trial_used_several_times(self):
        book = Book()
        trial = book.trial()
        with trial as given:
            given.put("a", LOADED, FETCHED)
        with self.assertRaises(KeyError):
            with trial:
                book.put("b", LOADED, FETCHED)
                raise KeyError
        self.assertEqual(book.names, ("a",))
        book.put("c", LOADED, FETCHED)
        with self.assertRaises(KeyError):
            with trial:
                raise KeyError
        self.assertEqual((book.names, book.changes), (("a", "c"), 2))

    def test_one_trial_within_itself(self):
        book = Book()
        trial = book.trial()
        with trial:
            book.put("a", LOADED, FETCHED)
            with self.assertRaises(KeyError):
                with trial:
                    book.put("b", LOADED, FETCHED)
                    with trial:
                        book.put("c", LOADED, FETCHED)
                    with self.assertRaises(KeyError):
                        with trial:
                            book.put("d", LOADED, FETCHED)
                            raise KeyError
                    self.assertEqual(book.names, ("a", "b", "c"))
                    raise KeyError
            self.assertEqual(book.names, ("a",))
        self.assertEqual((book.names, book.changes), (("a",), 1))
        with self.assertRaises(KeyError):
            with trial:
                with trial:
                    book.put("e", LOADED, FETCHED)
                book.undo()
                book.undo()
                self.assertEqual(book.names, ())
                raise KeyError
        self.assertEqual((book.names, book.changes), (("a",), 1))

    def run_blocks(self, book, dice, trial_for, depth):
        """Do changes and blocks by chance, and see behind each block that the book is as it must be."""
        for _ in range(dice.randrange(1, 4)):
            name = dice.choice("abcdef")
            book.put(name, LOADED, FETCHED)
            if dice.random() < 0.3:
                book.undo()
            if depth == 0:
                continue
            before = state(book)
            if dice.random() < 0.5:
                with self.assertRaises(KeyError):
                    with trial_for(book):
                        self.run_blocks(book, dice, trial_for, depth - 1)
                        raise KeyError
                self.assertEqual(state(book), before)
            else:
                with trial_for(book):
                    self.run_blocks(book, dice, trial_for, depth - 1)
                    before = state(book)
                self.assertEqual(state(book), before)

    def test_blocks_by_chance_with_one_trial_and_with_one_each(self):
        for seed in range(40):
            ends = []
            for single in (True, False):
                book = Book()
                trial = book.trial()
                self.run_blocks(book, random.Random(seed), lambda given: trial if single else given.trial(), 4)
                ends.append(state(book))
            with self.subTest(seed=seed):
                self.assertEqual(ends[0], ends[1])

    def test_an_exception_that_leaves_several_blocks_of_one_trial(self):
        book = sample_book()
        trial = book.trial()
        with trial:
            book.put("a", LOADED, FETCHED)
            before = state(book)
            with self.assertRaises(KeyError):
                with trial:
                    book.put("b", LOADED, FETCHED)
                    with trial, trial:
                        book.put("c", LOADED, FETCHED)
                        with trial:
                            book.drop("a")
                            raise KeyError
            self.assertEqual(state(book), before)
            with self.assertRaises(ValueError):
                with trial:
                    book.put("d", LOADED, FETCHED)
                    raise ValueError
            self.assertEqual(state(book), before)
        self.assertEqual(state(book), before)

    def test_blocks_of_two_trials_that_overlap(self):
        def block(trial):
            with trial:
                yield

        for order in ((0, 1), (1, 0)):
            book = sample_book()
            begun, befores = [], []
            for name in ("a", "b"):
                befores.append(state(book))
                begun.append(block(book.trial()))
                next(begun[-1])
                book.put(name, LOADED, FETCHED)
            for at in order:
                with self.subTest(order=order, at=at):
                    with self.assertRaises(KeyError):
                        begun[at].throw(KeyError())
                    self.assertEqual(state(book), befores[at])

    def test_trials_of_two_books(self):
        book, other = sample_book(), sample_book()
        with self.assertRaises(KeyError):
            with book.trial(), other.trial() as given:
                self.assertIs(given, other)
                book.put("b", LOADED, FETCHED)
                other.put("c", LOADED, FETCHED)
                raise KeyError
        self.assertEqual((book.names, other.names), (("sum",), ("sum",)))
        with book.trial():
            other.put("c", LOADED, FETCHED)
            with self.assertRaises(KeyError), other.trial():
                book.put("b", LOADED, FETCHED)
                raise KeyError
        self.assertEqual((book.names, other.names), (("b", "sum"), ("c", "sum")))

    def test_begun_trials_tell_nothing_before_they_are_used(self):
        book = Book()
        trial = book.trial()
        book.put("a", LOADED, FETCHED)
        with self.assertRaises(KeyError):
            with trial:
                book.drop("a")
                raise KeyError
        self.assertEqual(book.names, ("a",))

    def test_tried(self):
        book = sample_book()

        def good(given):
            self.assertIs(given, book)
            given.wish(RIGHT)
            return [given.changes]

        def bad(given):
            given.lift(0)
            given.drop("sum")
            raise KeyError("gone")

        self.assertEqual(book.tried(good), [2])
        self.assertIsNone(book.tried(lambda given: None))
        before = state(book)
        with self.assertRaises(KeyError) as caught:
            book.tried(bad)
        self.assertEqual(caught.exception.args, ("gone",))
        self.assertEqual(state(book), before)
        with self.assertRaises(NotKept):
            book.tried(lambda given: given.put("sum", sample_loop(), hasty_program()))
        with self.assertRaises(KeyError):
            book.tried(lambda given: given.tried(bad))
        self.assertEqual(state(book), before)


class OrderTest(BookCase):
    def test_of_errors(self):
        book = sample_book()
        book.wish(RIGHT)
        unfit = Program("take a q\na = mul a\nout a a")
        for deed, kind, told in (
            (lambda: book.put("Sum", None, None), InvalidName, {"given": "Sum"}), (lambda: book.put("sum", None, None), NotALoop, {"given": None}),
            (lambda: book.put("sum", sample_loop(), 5), NotAProgram, {"given": 5}), (lambda: book.put("sum", sample_loop(), unfit), UnknownInput, {"given": "q"}),
            (lambda: book.put("sum", sample_loop(), unfit.put(0, "take a k")), OtherWords, {"given": "mul"}),
            (lambda: book.put("sum", sample_loop(), unfit.put(0, "take a k").put(1, "a = mul a a")), OtherOuts, {"given": 2}),
            (lambda: book.put("sum", sample_loop(), hasty_program()), NotKept, {"index": 0, "shown": (1, ("out", 0))}),
            (lambda: book.wish(("right", "Other")), InvalidWish, {"given": ("right", "Other")}), (lambda: book.wish(("right", "other")), UnknownName, {"given": "other"}),
            (lambda: book.drop("Sum"), UnknownName, {"given": "Sum"}), (lambda: book.drop("sum"), InUse, {"index": 0}),
        ):
            self.refused(kind, book, deed, **told)


class SoonTest(BookCase):
    def test_many_changes_are_made_within_seconds(self):
        text = "in k\n" + "\n".join(f"{name} = f {name}@3 {other}@2 k" for name, other in zip("abcdefg", "bcdefga")) + "\nx = load A -3\nout a g"
        loop = Loop(text)
        begun = time.perf_counter()
        book = Book()
        for at, program in enumerate((plain(loop), unrolled(loop, 4), ahead(loop, 3))):
            name = "abc"[at]
            book.put(name, loop, program)
            for wish in (("right", name), ("within", name), ("over", name, "A", "B", 8), ("never more", name, name)):
                book.wish(wish)
        for _ in range(30):
            book.put("a", loop, plain(loop))
        for _ in range(3000):
            book.put("d", LOADED, FETCHED)
        for _ in range(3030):
            book.undo()
        self.assertLess(time.perf_counter() - begun, 20)


if __name__ == "__main__":
    unittest.main()
