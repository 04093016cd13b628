"""Tellings, and the shapes among them: points 6 and 7 of the document."""

from quarterfold.errors import NoShape, NoTelling, OtherFloor
from quarterfold.floors import is_size, want_floor
from quarterfold.rows import EMPTY, FIRST, FULL, depths_of, is_plain, is_whole, places_as_ended


def is_number(thing, many):
    """Whether the thing is a number where there are so many rows to stand for."""
    return is_whole(thing) and 0 <= thing < many + FIRST


def is_row(thing, before):
    """Whether the thing is a row where so many rows stand before it."""
    if not isinstance(thing, tuple) or len(thing) != 4:
        return False
    return all([is_number(number, before) for number in thing])


def are_rows(thing):
    """Whether the thing is a tuple of rows, each with numbers of rows before it only."""
    return isinstance(thing, tuple) and all([is_row(row, place) for place, row in enumerate(thing)])


def is_telling(thing):
    """Whether the thing is a telling."""
    if not isinstance(thing, tuple) or len(thing) != 3:
        return False
    n, top, rows = thing
    if not is_size(n) or not are_rows(rows) or not is_number(top, len(rows)):
        return False
    return depths_of(rows)[top] <= n


def is_shape(thing):
    """Whether the thing is a shape."""
    if not is_telling(thing):
        return False
    top, rows = thing[1:]
    if any([is_plain(row) for row in rows]) or len(set(rows)) < len(rows):
        return False
    return places_as_ended(rows, top) == list(range(len(rows)))


def want_telling(telling):
    """Refuse what is no telling."""
    if not is_telling(telling):
        raise NoTelling("a telling is a tuple of a size, a top and rows")


def want_shape(shape):
    """Refuse what is no shape."""
    if not is_shape(shape):
        raise NoShape("a shape is a telling whose rows are unlike, not plain, and in the order in which they end")


def want_one_floor(one, other):
    """Refuse what is no shape, and two shapes of unlike floors."""
    want_shape(one)
    want_shape(other)
    if one[0] != other[0]:
        raise OtherFloor("the two shapes are of unlike floors")


def empty(n):
    """The shape of size n in which nothing is full."""
    want_floor(n)
    return (n, EMPTY, ())


def full(n):
    """The shape of size n in which every cell is full."""
    want_floor(n)
    return (n, FULL, ())
