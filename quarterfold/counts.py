"""What is counted of any shape: point 24 of the document."""

from quarterfold.errors import NoNumber
from quarterfold.floors import side_of
from quarterfold.leaves import count_leaves
from quarterfold.made import count_cells
from quarterfold.rows import EMPTY, FIRST, FULL, is_whole
from quarterfold.tellings import want_shape


def many_cells(shape):
    """How many cells are full."""
    want_shape(shape)
    n, top, rows = shape
    return count_cells(n, top, rows)


def many_leaves(shape):
    """How many leaves the shape has."""
    want_shape(shape)
    return count_leaves(shape[1], shape[2])


def quarters_met(rows, met):
    """By which numbers the quarters of squares stand, and how many of them by each; met says it of the squares.

    Plain squares are left out: none of their quarters differs from them.
    """
    quarters = {}
    for number in met:
        if number >= FIRST:
            for quarter in rows[number - FIRST]:
                quarters[quarter] = quarters.get(quarter, 0) + met[number]
    return quarters


def many_unplain(shape, k):
    """How many squares of size k aren't plain."""
    want_shape(shape)
    n, top, rows = shape
    if not is_whole(k) or not 1 <= k <= n:
        raise NoNumber("squares that aren't plain are of a size from 1 to that of the floor")
    met = {top: 1}
    for size in range(n, k, -1):
        met = quarters_met(rows, met)
    return sum([met[number] for number in met if number >= FIRST])


class Measure:
    """What is reckoned of each number as a square of each size, once."""

    def __init__(self, rows):
        self.rows = rows
        self.sums = {}
        self.boxes = {}

    def sums_of(self, size, number):
        """The tuple (cells, rows, columns): how many are full, and the sums of their rows and of their columns."""
        if number == EMPTY:
            return (0, 0, 0)
        side = side_of(size)
        if number == FULL:
            along = side * side * (side - 1) // 2
            return (side * side, along, along)
        key = (size, number)
        if key not in self.sums:
            cells = down = right = 0
            for at, quarter in enumerate(self.rows[number - FIRST]):
                its_cells, its_down, its_right = self.sums_of(size - 1, quarter)
                cells += its_cells
                down += its_down + its_cells * (side // 2) * (at // 2)
                right += its_right + its_cells * (side // 2) * (at & 1)
            self.sums[key] = (cells, down, right)
        return self.sums[key]

    def bounds_of(self, size, number):
        """The tuple (first row, first column, last row, last column) of what is full, None of nothing."""
        if number == EMPTY:
            return None
        last = side_of(size) - 1
        if number == FULL:
            return (0, 0, last, last)
        key = (size, number)
        if key not in self.boxes:
            half = side_of(size - 1)
            found = []
            for at, quarter in enumerate(self.rows[number - FIRST]):
                box = self.bounds_of(size - 1, quarter)
                if box is not None:
                    down = half * (at // 2)
                    right = half * (at & 1)
                    found.append((box[0] + down, box[1] + right, box[2] + down, box[3] + right))
            self.boxes[key] = around_all(found)
        return self.boxes[key]


def around_all(boxes):
    """The least bounds that have all these bounds in them."""
    return (min([box[0] for box in boxes]), min([box[1] for box in boxes]),
            max([box[2] for box in boxes]), max([box[3] for box in boxes]))


def sum_of(shape, a, b, c):
    """The sum, over all full cells, of a * row + b * column + c."""
    want_shape(shape)
    n, top, rows = shape
    cells, down, right = Measure(rows).sums_of(n, top)
    return a * down + b * right + c * cells


def bounds(shape):
    """The tuple (first row, first column, last row, last column) of what is full, None of nothing."""
    want_shape(shape)
    n, top, rows = shape
    return Measure(rows).bounds_of(n, top)
