"""The errors that the package raises."""


class WrongValue(ValueError):
    """The base of the errors about what was handed over."""


class InvalidText(WrongValue):
    """What was handed over is not the text that is asked for."""

    def __init__(self, given):
        self.given = given


class InvalidNumber(WrongValue):
    """What was handed over is not a number that is asked for."""

    def __init__(self, given):
        self.given = given


class InvalidArray(WrongValue):
    """What was handed over is not a letter of an array that is asked for."""

    def __init__(self, given):
        self.given = given


class InvalidCost(WrongValue):
    """What was handed over is not a cost."""

    def __init__(self, given):
        self.given = given


class InvalidName(WrongValue):
    """What was handed over is not a name."""

    def __init__(self, given):
        self.given = given


class InvalidWish(WrongValue):
    """What was handed over is not a wish."""

    def __init__(self, given):
        self.given = given


class NotALoop(WrongValue):
    """What was handed over is not a Loop."""

    def __init__(self, given):
        self.given = given


class NotAProgram(WrongValue):
    """What was handed over is not a Program."""

    def __init__(self, given):
        self.given = given


class NotAWorld(WrongValue):
    """What was handed over is not a world."""

    def __init__(self, given):
        self.given = given


class NotACounts(WrongValue):
    """What was handed over is not a Counts."""

    def __init__(self, given):
        self.given = given


class NotAForm(WrongValue):
    """What was handed over is not a Form."""

    def __init__(self, given):
        self.given = given


class NotCosts(WrongValue):
    """What was handed over is not a Costs."""

    def __init__(self, given):
        self.given = given


class WrongMoment(LookupError):
    """The base of the errors about things that do not fit one another as they stand."""


class UnknownInput(WrongMoment):
    """A take of the program has a value that the loop has not."""

    def __init__(self, given):
        self.given = given


class OtherWords(WrongMoment):
    """A function word has another number of arguments in the program than in the loop."""

    def __init__(self, given):
        self.given = given


class OtherOuts(WrongMoment):
    """The program has another number of results than the loop."""

    def __init__(self, given):
        self.given = given


class NotRight(WrongMoment):
    """The program is not right: the count and the place of error that show it."""

    def __init__(self, count, where):
        self.count = count
        self.where = where


class TooFar(WrongMoment):
    """A cell of this array would be loaded with too great an offset."""

    def __init__(self, given):
        self.given = given


class UnknownName(WrongMoment):
    """The book has nothing under this name."""

    def __init__(self, given):
        self.given = given


class InUse(WrongMoment):
    """The wish with this index has the name in it."""

    def __init__(self, index):
        self.index = index


class NothingToUndo(WrongMoment):
    """No change stands that could be taken back."""


class NotKept(WrongMoment):
    """The wish with this index does not hold, as is shown."""

    def __init__(self, index, shown):
        self.index = index
        self.shown = shown
