"""The leaves beside a square: point 16 of the document."""

from quarterfold.errors import NoSide
from quarterfold.floors import address_at, box_at, is_cell, want_address
from quarterfold.leaves import want_coarse
from quarterfold.rows import FIRST, is_whole
from quarterfold.tellings import want_shape

# For each side: how many squares down and to the right the next square of that size lies, and which of its
# quarters lie along that side, from the left or from above.
SIDES = ((-1, 0, (2, 3)), (0, 1, (0, 2)), (1, 0, (0, 1)), (0, -1, (1, 3)))


def want_side(side):
    """Refuse what is no side."""
    if not is_whole(side) or not 0 <= side < len(SIDES):
        raise NoSide("a side is a whole number from 0 to 3")


def way_down(rows, top, address):
    """How far one comes on the way down to the address: the last square's number and address.

    The way ends at a leaf, or at the address.
    """
    number = top
    for at, figure in enumerate(address):
        if number < FIRST:
            return (number, address[:at])
        number = rows[number - FIRST][int(figure)]
    return (number, address)


def gather_along(rows, number, address, along, addresses):
    """Append the addresses of the leaves that have a cell at that side of the square; along are its quarters there."""
    if number < FIRST:
        addresses.append(address)
        return
    for at in along:
        gather_along(rows, rows[number - FIRST][at], address + str(at), along, addresses)


def leaves_beside(shape, address, side):
    """The addresses of the leaves beside the square on that side; nothing that is handed in is looked at again."""
    n, top, rows = shape
    down, right, along = SIDES[side]
    row, column, cells = box_at(n, address)
    next_row = row + down * cells
    next_column = column + right * cells
    if not is_cell(n, next_row, next_column):
        return []
    number, there = way_down(rows, top, address_at(n, next_row, next_column, n - len(address)))
    # A leaf that has the next square whole may have this one, too.
    if address.startswith(there):
        return []
    addresses = []
    gather_along(rows, number, there, along, addresses)
    return addresses


def beside(shape, address, side):
    """The addresses of the leaves beside the square on that side, from the left or from above."""
    want_shape(shape)
    want_address(shape[0], address)
    want_side(side)
    want_coarse(shape)
    return leaves_beside(shape, address, side)
