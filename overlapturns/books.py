"""Books: pairs of a loop and a program for it, under names, and wishes that hold for them."""

from overlapturns.errors import InUse, InvalidName, InvalidNumber, InvalidWish, NotKept, NothingToUndo, UnknownName
from overlapturns.fitting import check_pair
from overlapturns.kinds import is_integer_within
from overlapturns.trials import Trial
from overlapturns.wishes import is_naming, is_wish, names_in, shown_against


class Standing:
    """What a book has behind a change: its pairs, its wishes, and what it had before, None at first.

    It stays as it is once it is made, so that going back to it takes back all later changes.
    """

    def __init__(self, pairs, wanted, before):
        self.pairs = pairs
        self.wanted = wanted
        self.before = before
        self.depth = 0 if before is None else before.depth + 1


class Book:
    """Pairs under names, and wishes, all of which hold behind each change."""

    def __init__(self):
        self.standing = Standing({}, (), None)

    @property
    def names(self):
        """The rising row of the names."""
        return tuple(sorted(list(self.standing.pairs)))

    @property
    def wishes(self):
        """The row of the wishes."""
        return self.standing.wanted

    @property
    def changes(self):
        """How many changes can be taken back."""
        return self.standing.depth

    def put(self, name, loop, program):
        """Put a pair under a name, also in the place of another one."""
        if not is_naming(name):
            raise InvalidName(name)
        check_pair(loop, program)
        pairs = dict(self.standing.pairs)
        pairs[name] = (loop, program)
        # Of the others nothing has changed since they were asked.
        for index, wish in enumerate(self.standing.wanted):
            if name in names_in(wish):
                self._ask(index, wish, pairs)
        self._change(pairs, self.standing.wanted)

    def drop(self, name):
        """Take a pair away."""
        self._check_known(name)
        for index, wish in enumerate(self.standing.wanted):
            if name in names_in(wish):
                raise InUse(index)
        pairs = dict(self.standing.pairs)
        del pairs[name]
        self._change(pairs, self.standing.wanted)

    def wish(self, wish):
        """Make one wish more, behind the others."""
        if not is_wish(wish):
            raise InvalidWish(wish)
        for name in names_in(wish):
            self._check_known(name)
        self._ask(len(self.standing.wanted), wish, self.standing.pairs)
        self._change(self.standing.pairs, self.standing.wanted + (wish,))

    def lift(self, index):
        """Take a wish away."""
        wanted = self.standing.wanted
        if not is_integer_within(index, 0, len(wanted) - 1):
            raise InvalidNumber(index)
        self._change(self.standing.pairs, wanted[:index] + wanted[index + 1:])

    def undo(self):
        """Take back the last change that stands."""
        if self.standing.before is None:
            raise NothingToUndo()
        self.standing = self.standing.before

    def trial(self):
        """Return what stands in `with`, for a block behind which the book is as before, if it ends with an error."""
        return Trial(self)

    def tried(self, deed):
        """Return what a deed with the book returns, in such a block."""
        with self.trial() as book:
            return deed(book)

    def _check_known(self, name):
        if name not in self:
            raise UnknownName(name)

    def _ask(self, index, wish, pairs):
        shown = shown_against(wish, pairs)
        if shown is not None:
            raise NotKept(index, shown)

    def _change(self, pairs, wanted):
        self.standing = Standing(pairs, wanted, self.standing)

    def __contains__(self, value):
        return isinstance(value, str) and value in self.standing.pairs

    def __getitem__(self, name):
        self._check_known(name)
        return self.standing.pairs[name]

    def __iter__(self):
        raise TypeError("books are not gone through; their names are")

    def __eq__(self, other):
        return isinstance(other, Book) and self is other
