"""Floors, their squares and their cells: point 5 of the document."""

from quarterfold.errors import NoAddress, NoCell, NoFloor
from quarterfold.rows import is_whole

GREATEST_SIZE = 12


def is_size(thing):
    """Whether the thing is the size of a floor."""
    return is_whole(thing) and 0 <= thing <= GREATEST_SIZE


def is_address(n, thing):
    """Whether the thing is an address on a floor of size n."""
    return isinstance(thing, str) and len(thing) <= n and all([figure in "0123" for figure in thing])


def is_cell(n, row, column):
    """Whether a floor of size n has such a cell."""
    side = side_of(n)
    return is_whole(row) and is_whole(column) and 0 <= row < side and 0 <= column < side


def want_floor(n):
    """Refuse what is no size."""
    if not is_size(n):
        raise NoFloor("a size is a whole number from 0 to 12")


def want_address(n, address):
    """Refuse what is no address on a floor of size n."""
    if not is_address(n, address):
        raise NoAddress("an address is a text of figures from 0 to 3, at most as many as the floor's size")


def want_cell(n, row, column):
    """Refuse what is no cell of a floor of size n."""
    if not is_cell(n, row, column):
        raise NoCell("a cell's row and column are whole numbers on the floor")


def side_of(n):
    """How many cells a side of a square of size n has."""
    return 1 << n


def quarter_of(row, column, k):
    """Which quarter the cell lies in, of its square of size k + 1."""
    return 2 * ((row >> k) & 1) + ((column >> k) & 1)


def box_at(n, address):
    """What box_of tells of an address that is known to be one."""
    row = column = 0
    side = side_of(n)
    for figure in address:
        side = side // 2
        row += side * (int(figure) // 2)
        column += side * (int(figure) & 1)
    return (row, column, side)


def box_of(n, address):
    """The tuple (row, column, side) of the square at the address."""
    want_floor(n)
    want_address(n, address)
    return box_at(n, address)


def address_at(n, row, column, size):
    """What address_of tells of a cell and a size that are known to be such."""
    return "".join([str(quarter_of(row, column, k)) for k in range(n - 1, size - 1, -1)])


def address_of(n, row, column, size):
    """The address of the square of that size in which the cell lies."""
    want_floor(n)
    want_floor(size)
    if size > n:
        raise NoFloor("no square is greater than its floor")
    want_cell(n, row, column)
    return address_at(n, row, column, size)
