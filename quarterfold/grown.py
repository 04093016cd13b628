"""Shapes grown and shrunk: point 18 of the document."""

from quarterfold.deeds import left_out
from quarterfold.errors import NoNumber
from quarterfold.floors import box_of, side_of
from quarterfold.leaves import leaves_of, want_leaves
from quarterfold.made import shape_of_boxes
from quarterfold.rows import is_whole
from quarterfold.tellings import want_shape

MOST_FAR = 4096
MOST_LEAVES_GROWN = 200


def want_growth(shape, far):
    """Refuse what is no shape, what is no number to grow by, and a shape with too many leaves."""
    want_shape(shape)
    if not is_whole(far) or not 0 <= far <= MOST_FAR:
        raise NoNumber("shapes grow and shrink by a whole number from 0 to 4,096")
    want_leaves(shape, MOST_LEAVES_GROWN)


def boxes_where(shape, wanted):
    """The boxes (row, column, high, wide) of the leaves that are full, or of those that are empty."""
    boxes = [box_of(shape[0], address) for address, is_leaf_full in leaves_of(shape) if is_leaf_full == wanted]
    return [(row, column, side, side) for row, column, side in boxes]


def boxes_around(n):
    """The boxes of the cells off the floor that have a side in common with one of its cells."""
    side = side_of(n)
    return [(-1, 0, 1, side), (side, 0, 1, side), (0, -1, side, 1), (0, side, side, 1)]


def spread(n, boxes, far):
    """The shape of size n of all cells so far from one in a box, or less; boxes may lie off the floor."""
    return shape_of_boxes(n, [(row - far, column - far, high + 2 * far, wide + 2 * far)
                              for row, column, high, wide in boxes])


def grown(shape, far):
    """Full is each cell that is so far from a full one, or less."""
    want_growth(shape, far)
    return spread(shape[0], boxes_where(shape, True), far)


def shrunk(shape, far):
    """Full is each full cell that lies so deep inside, or deeper."""
    want_growth(shape, far)
    n = shape[0]
    # Just those cells are not so deep that are as near to an empty one or to what is off the floor.
    return left_out(spread(n, boxes_where(shape, False) + boxes_around(n), far))
