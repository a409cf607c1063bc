"""Blocks behind which a book is as it was, if they end with an exception."""


class Mark:
    """What a trial keeps of the block around another one: what the book had, and the mark of the next one around."""

    def __init__(self, held, below):
        self.held = held
        self.below = below


class Trial:
    """What stands in `with`, for several blocks, also within one another.

    `held` is what the book had when the innermost block that goes on began, None if there is none.
    """

    def __init__(self, book):
        self.book = book
        self.held = None
        self.around = None

    def __enter__(self):
        self.around = Mark(self.held, self.around)
        self.held = self.book.standing
        return self.book

    def __exit__(self, kind, value, trace):
        book = self.book
        if kind is not None:
            book.standing = self.held
        self.leave_block()

    # The block around this one is the innermost one again.
    def leave_block(self):
        around = self.around
        self.held = around.held
        self.around = around.below
