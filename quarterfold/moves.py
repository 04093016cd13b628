"""Shapes moved and shifted: point 15 of the document."""

from quarterfold.errors import NoNumber
from quarterfold.floors import side_of
from quarterfold.leaves import want_coarse
from quarterfold.rows import EMPTY, Book, is_plain, is_whole, quarters_of, shape_of
from quarterfold.tellings import want_shape

# The places of four squares, two beside one another above two: (row, column) of each.
FOUR = ((0, 0), (0, 1), (1, 0), (1, 1))


def needed(four, down, right):
    """The four with those that the square does not reach exchanged for those that it does.

    So squares that see the same are reckoned once, whatever lies beside them.
    """
    first, second, third, fourth = four
    if not down:
        third, fourth = first, second
    if not right:
        second, fourth = first, third
    return (first, second, third, fourth)


class View:
    """A floor seen through squares that do not lie as its own: each lies over four of its squares at most.

    The row and the column are those of the floor's cell at which the view begins; squares of one size lie
    all as far down and to the right of the floor's own.
    """

    def __init__(self, rows, row, column):
        self.rows = rows
        self.row = row
        self.column = column
        self.book = Book()
        self.floor_numbers = self.book.numbers_for(rows)
        self.known = {}

    def quarter_at(self, four, down, right):
        """The number of a quarter of the four squares, counted from the first quarter of the first."""
        square = four[2 * (down // 2) + right // 2]
        return quarters_of(self.rows, square)[2 * (down & 1) + (right & 1)]

    def number_seen(self, size, four):
        """The number of a square of the view of that size, of which the first cell lies in the first of the four."""
        within = side_of(size) - 1
        down = self.row & within
        right = self.column & within
        four = needed(four, down, right)
        if is_plain(four) or (down == 0 and right == 0):
            return self.floor_numbers[four[0]]
        key = (size, four)
        if key not in self.known:
            half = side_of(size - 1)
            starts = [(down // half + row, right // half + column) for row, column in FOUR]
            self.known[key] = self.book.number_for(tuple([
                self.number_seen(size - 1, self.four_from(four, row, column)) for row, column in starts]))
        return self.known[key]

    def four_from(self, four, down, right):
        """The quarters of the four squares over which a quarter of the view lies that begins in that one."""
        return tuple([self.quarter_at(four, down + row, right + column) for row, column in FOUR])


def want_move(shape, down, right):
    """Refuse what is no shape or no move, and a shape that isn't coarse."""
    want_shape(shape)
    if not is_whole(down) or not is_whole(right):
        raise NoNumber("a move goes by whole numbers")
    want_coarse(shape)


def moved(shape, down, right):
    """The shape moved down and to the right; what leaves the floor is gone."""
    want_move(shape, down, right)
    n, top, rows = shape
    view = View(rows, -down, -right)
    # Floors beside one another, of which only the one that begins at the cell (0, 0) is not empty.
    places = [((-down >> n) + row, (-right >> n) + column) for row, column in FOUR]
    four = tuple([top if place == (0, 0) else EMPTY for place in places])
    return shape_of(n, view.number_seen(n, four), view.book.kept)


def shifted(shape, down, right):
    """The shape moved down and to the right; what leaves the floor comes in on the other side."""
    want_move(shape, down, right)
    n, top, rows = shape
    view = View(rows, -down, -right)
    return shape_of(n, view.number_seen(n, (top,) * 4), view.book.kept)
