"""What is nearest to a cell, and how deep a cell lies inside: points 17 and 18 of the document."""

from quarterfold.errors import NotFull
from quarterfold.floors import box_of, side_of, want_cell
from quarterfold.leaves import leaves_of
from quarterfold.tellings import want_shape


def least_far(row, column, box):
    """The tuple (far, cell) of the square's cell that is least far from the cell, of several the first."""
    first_row, first_column, side = box
    above = first_row - row
    left = first_column - column
    far = max(0, above, left, 1 - side - above, 1 - side - left)
    # None of the square's cells is less far, so all that lie so many rows and columns around are just so far.
    return (far, (max(first_row, row - far), max(first_column, column - far)))


def seen_leaves(shape, row, column):
    """For each leaf, by addresses: its address, whether it is full, and its least far cell as (far, cell)."""
    want_shape(shape)
    n = shape[0]
    want_cell(n, row, column)
    # A shape that isn't coarse is refused by leaves_of.
    return [(address, is_leaf_full, least_far(row, column, box_of(n, address)))
            for address, is_leaf_full in leaves_of(shape)]


def nearest(shape, row, column):
    """The tuple (far, cell, addresses) of the full cell that is nearest to the cell; None where nothing is full."""
    leaves = seen_leaves(shape, row, column)
    full_ones = [seen for address, is_leaf_full, seen in leaves if is_leaf_full]
    if not full_ones:
        return None
    far, cell = min(full_ones)
    return (far, cell, [address for address, is_leaf_full, seen in leaves if seen < (far, cell)])


def inside(shape, row, column):
    """The tuple (r, cell, addresses): how deep the full cell lies, an empty cell next to that, leaves that show it."""
    leaves = seen_leaves(shape, row, column)
    last = side_of(shape[0]) - 1
    to_the_edge = 1 + min(row, column, last - row, last - column)
    empty_ones = [seen for address, is_leaf_full, seen in leaves if not is_leaf_full and seen[0] <= to_the_edge]
    far, cell = min(empty_ones, default=(to_the_edge, None))
    if far == 0:
        raise NotFull("the cell is empty")
    return (far - 1, cell, [address for address, is_leaf_full, seen in leaves if seen[0] < far])
