"""Two shapes of one floor brought together: points 12 and 13 of the document."""

from quarterfold.floors import side_of
from quarterfold.rows import EMPTY, FIRST, FULL, Book, shape_of
from quarterfold.tellings import want_one_floor, want_shape

# Whether a cell comes to be full (1) that is empty in both, full in the second only, in the first only, in both.
JOINED = (0, 1, 1, 1)
CUT = (0, 0, 0, 1)
WITHOUT = (0, 0, 1, 0)
UNLIKE = (0, 1, 1, 0)


def exchanged(number):
    """The number with EMPTY and FULL exchanged; one that stands for a row stays."""
    if number < FIRST:
        return FULL - number
    return number


def exchanged_rows(rows):
    """The rows with EMPTY and FULL exchanged in each."""
    return tuple([tuple([exchanged(number) for number in row]) for row in rows])


def both_ways(book, rows):
    """The book's numbers for all numbers of a shape, as they are and left out, each at its place in a list."""
    left = book.numbers_for(exchanged_rows(rows))
    return (book.numbers_for(rows), [FULL, EMPTY] + left[FIRST:])


def number_beside_plain(ways, number, outcomes):
    """The number of a square that is plain in one shape and stands by the number in the other.

    The outcomes are what comes of a cell that is empty there, and of one that is full there.
    """
    if outcomes[0] == outcomes[1]:
        return outcomes[0]
    # An empty cell that comes to be full means that the square is left out.
    return ways[outcomes[0]][number]


class Deed:
    """A deed on two shapes: each pair of numbers is brought together once, however many squares have it."""

    def __init__(self, rows, other_rows, outcomes):
        self.rows = rows
        self.other_rows = other_rows
        self.outcomes = outcomes
        self.book = Book()
        self.ways = both_ways(self.book, rows)
        self.other_ways = both_ways(self.book, other_rows)
        self.known = {}

    def number_for_pair(self, number, other):
        """The number of a square that stands by these two numbers in the two shapes."""
        if number < FIRST:
            return number_beside_plain(self.other_ways, other, self.outcomes[2 * number:2 * number + 2])
        if other < FIRST:
            return number_beside_plain(self.ways, number, self.outcomes[other::2])
        if (number, other) not in self.known:
            row = self.rows[number - FIRST]
            other_row = self.other_rows[other - FIRST]
            self.known[(number, other)] = self.book.number_for(
                tuple([self.number_for_pair(mine, theirs) for mine, theirs in zip(row, other_row)]))
        return self.known[(number, other)]


def brought_together(one, other, outcomes):
    """The shape that comes of the two by these outcomes."""
    want_one_floor(one, other)
    deed = Deed(one[2], other[2], outcomes)
    return shape_of(one[0], deed.number_for_pair(one[1], other[1]), deed.book.kept)


def joined(one, other):
    """Full is what is full in either."""
    return brought_together(one, other, JOINED)


def cut(one, other):
    """Full is what is full in both."""
    return brought_together(one, other, CUT)


def without(one, other):
    """Full is what is full in the first and not in the second."""
    return brought_together(one, other, WITHOUT)


def unlike(one, other):
    """Full is what is full in just one."""
    return brought_together(one, other, UNLIKE)


def left_out(shape):
    """Full is what is empty in the shape."""
    want_shape(shape)
    n, top, rows = shape
    return (n, exchanged(top), exchanged_rows(rows))


def lies_in(one, other):
    """Whether no cell is full in the first that isn't full in the second."""
    return without(one, other)[1] == EMPTY


def some_full_cell(shape):
    """A full cell of the shape, None where there is none."""
    n, number, rows = shape
    if number == EMPTY:
        return None
    row = column = 0
    side = side_of(n)
    while number >= FIRST:
        side = side // 2
        quarters = rows[number - FIRST]
        at = [quarter != EMPTY for quarter in quarters].index(True)
        row += side * (at // 2)
        column += side * (at & 1)
        number = quarters[at]
    return (row, column)


def parting(one, other):
    """A cell that is full in just one of the two, None where there is none."""
    return some_full_cell(unlike(one, other))


def gather_pairs(rows, other_rows, pair, found):
    """Put the pair and those below it into the dict; pairs with a plain number, below which all are so, are none."""
    number, other = pair
    if number < FIRST or other < FIRST or pair in found:
        return
    found[pair] = True
    for below in zip(rows[number - FIRST], other_rows[other - FIRST]):
        gather_pairs(rows, other_rows, below, found)


def pairs(one, other):
    """How many unlike tuples of two numbers, neither of them plain, the squares have in the two shapes."""
    want_one_floor(one, other)
    found = {}
    gather_pairs(one[2], other[2], (one[1], other[1]), found)
    return len(found)
