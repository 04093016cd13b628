"""Rims, the ways along the sides between what is full and what isn't: point 22 of the document.

A heading is 0 up, 1 to the right, 2 down, 3 to the left. The four cells around a corner are told from the upper
left one on, to the right around: so the one at the place of a heading lies ahead on its left hand, and the one at
the next place ahead on its right hand.
"""

from quarterfold.floors import box_at, is_cell, want_cell
from quarterfold.leaves import leaves_of, want_coarse
from quarterfold.tellings import want_shape
from quarterfold.touching import CORNERS, first_cell, group_at, leaf_at, want_way

UP = 0
RIGHT = 1
DOWN = 2
LEFT = 3
AROUND = ((-1, -1), (-1, 0), (0, 0), (0, -1))


def cells_around(shape, corner):
    """For each of the four cells around the corner: whether it is on the floor and full."""
    cells = [(corner[0] + down, corner[1] + right) for down, right in AROUND]
    return [is_cell(shape[0], row, column) and leaf_at(shape, row, column)[1] for row, column in cells]


def is_turn(cells):
    """Whether rims turn at a corner with these cells around it.

    Where two cells beside one another are full they go straight on.
    """
    full_ones = cells.count(True)
    return full_ones in (1, 3) or (full_ones == 2 and cells[0] == cells[2])


def corners_of_leaves(shape):
    """The corners of all leaves, each once, sorted: elsewhere no rim can turn."""
    boxes = [box_at(shape[0], address) for address, is_leaf_full in leaves_of(shape)]
    return sorted({(row + down, column + right) for row, column, side in boxes
                   for down in (0, side) for right in (0, side)})


def link(corners, ahead, back, line):
    """Put into the dicts, for each two next corners in one line, the one that comes ahead and the one that comes back.

    The line says whether those of one row (0) or of one column (1) lie in line, and the corners are in that order.
    """
    for corner, following in zip(corners, corners[1:]):
        if corner[line] == following[line]:
            ahead[corner] = following
            back[following] = corner


class Walk:
    """The corners at which the rims of a shape turn, and the way from each to the next one."""

    def __init__(self, shape, by):
        self.by = by
        self.around = {}
        for corner in corners_of_leaves(shape):
            cells = cells_around(shape, corner)
            if is_turn(cells):
                self.around[corner] = cells
        self.following = [{}, {}, {}, {}]
        link(list(self.around), self.following[RIGHT], self.following[LEFT], 0)
        by_columns = sorted(self.around, key=lambda corner: (corner[1], corner[0]))
        link(by_columns, self.following[DOWN], self.following[UP], 1)

    def heading_behind(self, corner, heading):
        """The heading in which a rim goes on that comes to the corner in that heading."""
        cells = self.around[corner]
        is_left_full = cells[heading]
        is_right_full = cells[(heading + 1) & 3]
        if is_left_full and (is_right_full or self.by == CORNERS):
            return (heading - 1) & 3
        return (heading + 1) & 3

    def steps_from(self, start):
        """The steps (corner, heading) of the rim that has the step."""
        steps = []
        here = start
        while not steps or here != start:
            steps.append(here)
            corner, heading = here
            corner = self.following[heading][corner]
            here = (corner, self.heading_behind(corner, heading))
        return steps

    def first_steps(self):
        """All steps to the right or down, in order: from its least corner no rim goes up or to the left."""
        return [(corner, heading) for corner, cells in self.around.items() for heading in (RIGHT, DOWN)
                if cells[heading + 1] and not cells[heading]]


def rim_of(steps):
    """The rim that has these steps."""
    return tuple([corner for corner, heading in steps])


def rims_of(shape, by):
    """All rims, each from its least corner on, sorted."""
    want_shape(shape)
    want_way(by)
    want_coarse(shape)
    walk = Walk(shape, by)
    gone = {}
    rims = []
    for start in walk.first_steps():
        # A rim is met at its least corner first, as these steps are in order.
        if start not in gone:
            steps = walk.steps_from(start)
            gone.update({step: True for step in steps})
            rims.append(rim_of(steps))
    return sorted(rims)


def rim_round(shape, by, row, column):
    """The outer rim of the part, or the inner one of the hole, that has the cell; None where neither has it."""
    want_shape(shape)
    want_way(by)
    want_cell(shape[0], row, column)
    want_coarse(shape)
    group = group_at(shape, by, row, column)
    if group is None:
        return None
    heading = RIGHT if leaf_at(shape, row, column)[1] else DOWN
    return rim_of(Walk(shape, by).steps_from((first_cell(shape[0], group), heading)))


def held(rim):
    """How many cells the rim holds, below nought of an inner one."""
    nexts = rim[1:] + rim[:1]
    return sum([column * (next_row - row) for (row, column), (next_row, next_column) in zip(rim, nexts)])
