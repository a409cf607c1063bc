"""Blocks behind which a book is as it was, if they end with an exception."""


class Mark:
    """Where a block began: what the book had there, and the mark of the block around it, None if there is none."""

    def __init__(self, held, around):
        self.held = held
        self.around = around


class Trial:
    """What stands in `with`, for several blocks, also within one another.

    `inner` is the mark of the innermost block that goes on, None if there is none.
    """

    def __init__(self, book):
        self.book = book
        self.inner = None

    def __enter__(self):
        self.inner = Mark(self.book.standing, self.inner)
        return self.book

    def __exit__(self, kind, value, trace):
        book = self.book
        if kind is not None:
            book.standing = self.inner.held
        self.inner = self.inner.around
