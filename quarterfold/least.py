"""Least tellings, fewest leaves, and shapes of one form: point 25 of the document."""

from quarterfold.counts import bounds
from quarterfold.errors import TooMany
from quarterfold.floors import side_of
from quarterfold.leaves import want_coarse
from quarterfold.made import gather_cells
from quarterfold.moves import moved
from quarterfold.rows import EMPTY
from quarterfold.tellings import want_one_floor, want_shape
from quarterfold.turns import TURNS, turned

GREATEST_LEAST = 4
GREATEST_FEWEST = 7


def want_size_within(shape, greatest):
    """Refuse what is no shape, and a shape of a greater size."""
    want_shape(shape)
    if shape[0] > greatest:
        raise TooMany(f"this is told of shapes of size {greatest} at most")


def moves_of(shape):
    """All moves (down, right) with no full cell gone, of a shape in which something is full; in order."""
    first_row, first_column, last_row, last_column = bounds(shape)
    side = side_of(shape[0])
    return [(down, right) for down in range(-first_row, side - last_row)
            for right in range(-first_column, side - last_column)]


def least(shape):
    """The tuple (down, right, shape) of the move behind which the shape has the fewest rows, the least of several."""
    want_size_within(shape, GREATEST_LEAST)
    if shape[1] == EMPTY:
        return (0, 0, shape)
    ones = [(moved(shape, down, right), down, right) for down, right in moves_of(shape)]
    told, down, right = min(ones, key=lambda one: (len(one[0][2]), one[0]))
    return (down, right, told)


def sums_above(shape):
    """For each corner, as sums[row][column]: how many full cells lie above it on its left."""
    n, top, rows = shape
    side = side_of(n)
    cells = []
    gather_cells(rows, top, (0, 0, side), cells)
    full_ones = {cell: 1 for cell in cells}
    sums = [[0] * (side + 1)]
    for row in range(side):
        in_row = 0
        line = [0]
        for column in range(side):
            in_row += full_ones.get((row, column), 0)
            line.append(sums[row][column + 1] + in_row)
        sums.append(line)
    return sums


def spans(side, first, length):
    """What a floor of that side has of lines of that length, one behind another, one of which begins at the first.

    A tuple (where it begins, where it ends) for each that has something of the floor.
    """
    return [(max(start, 0), min(start + length, side)) for start in range(first - length, side, length)
            if start + length > 0]


class Remainders:
    """The squares that aren't plain behind moves: moves alike but for multiples of a square's side have as many."""

    def __init__(self, shape):
        self.size = shape[0]
        self.sums = sums_above(shape)
        self.known = {}

    def count_unplain(self, size, first_row, first_column):
        """How many squares of that size aren't plain, if one of them begins at that row and column."""
        length = side_of(size)
        side = side_of(self.size)
        across = spans(side, first_column, length)
        many = 0
        for above, below in spans(side, first_row, length):
            upper = self.sums[above]
            lower = self.sums[below]
            full_ones = [lower[right] - lower[left] - upper[right] + upper[left] for left, right in across]
            many += len([count for count in full_ones if 0 < count < length * length])
        return many

    def unplain_behind(self, size, down, right):
        """How many squares of that size aren't plain behind the move."""
        last = side_of(size) - 1
        key = (size, -down & last, -right & last)
        if key not in self.known:
            self.known[key] = self.count_unplain(size, key[1], key[2])
        return self.known[key]

    def leaves_behind(self, down, right):
        """How many leaves there are behind the move."""
        return 1 + 3 * sum([self.unplain_behind(size, down, right) for size in range(1, self.size + 1)])


def fewest(shape):
    """The tuple (leaves, down, right) of the move behind which there are the fewest leaves, the least of several."""
    want_size_within(shape, GREATEST_FEWEST)
    if shape[1] == EMPTY:
        return (1, 0, 0)
    remainders = Remainders(shape)
    return min([(remainders.leaves_behind(down, right), down, right) for down, right in moves_of(shape)])


def move_onto(one, other):
    """The move (down, right) by which the one is the other, None where there is none; in both something is full."""
    box = bounds(one)
    other_box = bounds(other)
    down = other_box[0] - box[0]
    right = other_box[1] - box[1]
    # The bounds say the only move that can be, and that no full cell is gone where they are as high and as wide.
    if (box[2] + down, box[3] + right) == other_box[2:] and moved(one, down, right) == other:
        return (down, right)
    return None


def form(one, other):
    """The least tuple (turn, down, right) by which the one, turned and then moved, is the other; None without one."""
    want_one_floor(one, other)
    want_coarse(one)
    want_coarse(other)
    if EMPTY in (one[1], other[1]):
        return (0, 0, 0) if one == other else None
    for turn in range(TURNS):
        move = move_onto(turned(one, turn), other)
        if move is not None:
            return (turn, move[0], move[1])
    return None
