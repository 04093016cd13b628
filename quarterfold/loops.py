"""Shapes made of loops: point 23 of the document."""

from quarterfold.errors import NoLoop
from quarterfold.floors import side_of, want_floor
from quarterfold.made import is_list
from quarterfold.rows import EMPTY, FULL, Book, is_whole, shape_of

FEWEST_CORNERS = 4


def is_corner(n, thing):
    """Whether the thing is a corner on a floor of size n."""
    if not isinstance(thing, tuple) or len(thing) != 2:
        return False
    return all([is_whole(number) and 0 <= number <= side_of(n) for number in thing])


def goes_level(corner, following):
    """True where the side from the corner to the following one is level, False where it is upright, else None."""
    if (corner[0] == following[0]) == (corner[1] == following[1]):
        return None
    return corner[0] == following[0]


def is_loop(n, thing):
    """Whether the thing is a loop on a floor of size n."""
    if not is_list(thing) or len(thing) < FEWEST_CORNERS or not all([is_corner(n, corner) for corner in thing]):
        return False
    corners = list(thing)
    sides = [goes_level(corner, following) for corner, following in zip(corners, corners[1:] + corners[:1])]
    if None in sides:
        return False
    # By turns, also from the last side to the first one.
    return all([side != following for side, following in zip(sides, sides[1:] + sides[:1])])


def left_over(corners):
    """The corners that come an odd number of times, each once, sorted."""
    counts = {}
    for corner in corners:
        counts[corner] = counts.get(corner, 0) + 1
    return sorted([corner for corner in counts if counts[corner] & 1])


def seen_from(corners, row, column, side):
    """The corners as a square sees them that begins at that row and column: counted from there.

    Those above it or on its left change it as if they lay on its edge, those below or on its right don't at all.
    """
    return left_over([(max(down - row, 0), max(right - column, 0)) for down, right in corners
                      if down < row + side and right < column + side])


def number_inside(book, known, side, corners):
    """The number of a square of that side, in which a cell is full with an odd number of corners above on the left.

    A corner stands for all that lies below it on its right: an upright side is what its two ends differ by.
    Squares of one side with the same corners are reckoned once only.
    """
    if not corners:
        return EMPTY
    if corners == [(0, 0)]:
        return FULL
    key = (side, tuple(corners))
    if key not in known:
        half = side // 2
        known[key] = book.number_for(tuple([
            number_inside(book, known, half, seen_from(corners, row, column, half))
            for row in (0, half) for column in (0, half)]))
    return known[key]


def of_loops(n, loops):
    """The shape of size n in which a cell is full with an odd number of upright sides of loops on its left."""
    want_floor(n)
    if not is_list(loops) or not all([is_loop(n, loop) for loop in loops]):
        raise NoLoop("a loop has four or more corners on the floor, level and upright sides by turns")
    side = side_of(n)
    book = Book()
    top = number_inside(book, {}, side, seen_from([corner for loop in loops for corner in loop], 0, 0, side))
    return shape_of(n, top, book.kept)
