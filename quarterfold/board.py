"""Boards, whose cells are put and taken: point 26 of the document."""

from quarterfold.floors import address_at, want_cell
from quarterfold.leaves import want_coarse
from quarterfold.made import count_cells, put_in
from quarterfold.rows import EMPTY, FIRST, FULL, Book, shape_of
from quarterfold.tellings import want_shape
from quarterfold.touching import SIDES, hole_groups, part_groups


def leaves_on_way(rows, top, address):
    """The leaves, as leaves_of tells them, on the way down to the cell at the address, or beside it; sorted."""
    leaves = []
    number = top
    here = ""
    for figure in address:
        if number >= FIRST:
            row = rows[number - FIRST]
            leaves.extend([(here + str(at), quarter == FULL) for at, quarter in enumerate(row)
                           if quarter < FIRST and at != int(figure)])
            number = row[int(figure)]
            here += figure
    leaves.append((here, number == FULL))
    return sorted(leaves)


class Board:
    """A shape that changes cell by cell."""

    def __init__(self, shape):
        want_shape(shape)
        n, top, rows = shape
        self.size = n
        self.book = Book()
        # The book keeps the rows of all shapes that the board had, so a top is all it takes to go back to one.
        self.top = self.book.numbers_for(rows)[top]
        self.past = []

    def put(self, row, column):
        """Make the cell full; the leaves that are gone and those that have come."""
        return self.change(row, column, FULL)

    def take(self, row, column):
        """Make the cell empty; the leaves that are gone and those that have come."""
        return self.change(row, column, EMPTY)

    def change(self, row, column, number):
        """Let the cell stand by the plain number; the tuple (gone, come) of lists of leaves."""
        want_cell(self.size, row, column)
        address = address_at(self.size, row, column, 0)
        top = put_in(self.book, self.top, address, number)
        if top == self.top:
            return ([], [])
        before = leaves_on_way(self.book.kept, self.top, address)
        behind = leaves_on_way(self.book.kept, top, address)
        self.past.append(self.top)
        self.top = top
        return ([leaf for leaf in before if leaf not in behind], [leaf for leaf in behind if leaf not in before])

    def undo(self):
        """Take back the last change that isn't undone yet: whether there was one."""
        if not self.past:
            return False
        self.top = self.past.pop()
        return True

    def shape(self):
        """The shape that the board has."""
        return shape_of(self.size, self.top, self.book.kept)

    def coarse_shape(self):
        """The shape that the board has; one that isn't coarse is refused."""
        shape = self.shape()
        want_coarse(shape)
        return shape

    def many(self):
        """How many cells are full."""
        n, top, rows = self.shape()
        return count_cells(n, top, rows)

    def parts(self):
        """How many parts there are by sides."""
        return len(part_groups(self.coarse_shape(), SIDES))

    def holes(self):
        """How many holes there are by sides."""
        return len(hole_groups(self.coarse_shape(), SIDES))
