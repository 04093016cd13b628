"""Shapes on the floors of the next size and of the size before: point 15 of the document."""

from quarterfold.errors import NoFloor, NoNumber
from quarterfold.floors import GREATEST_SIZE
from quarterfold.rows import EMPTY, FIRST, FULL, Book, is_whole, shape_of
from quarterfold.tellings import want_shape


def larger(shape):
    """The shape on the floor of the next size, in which each cell is four."""
    want_shape(shape)
    n, top, rows = shape
    if n == GREATEST_SIZE:
        raise NoFloor("there is no greater floor")
    # Rows don't say of what size their squares are, so they tell the greater squares as they stand.
    return (n + 1, top, rows)


class Lessening:
    """A floor made lesser: a cell is full where at least k of its four cells are."""

    def __init__(self, rows, k):
        self.rows = rows
        self.k = k
        self.book = Book()
        self.known = {}

    def lesser_number(self, size, number):
        """The number that comes of a square of that size, above 0; alike ones of one size are reckoned once."""
        if number < FIRST:
            return number
        row = self.rows[number - FIRST]
        if size == 1:
            return FULL if row.count(FULL) >= self.k else EMPTY
        key = (size, number)
        if key not in self.known:
            self.known[key] = self.book.number_for(tuple([self.lesser_number(size - 1, quarter) for quarter in row]))
        return self.known[key]


def lesser(shape, k):
    """The shape on the floor of the size before, in which a cell is full where at least k of its four are."""
    want_shape(shape)
    n, top, rows = shape
    if n == 0:
        raise NoFloor("there is no lesser floor")
    if not is_whole(k) or not 1 <= k <= 4:
        raise NoNumber("of four cells it is 1 to 4 that must be full")
    lessening = Lessening(rows, k)
    return shape_of(n - 1, lessening.lesser_number(n, top), lessening.book.kept)
