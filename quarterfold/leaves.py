"""The leaves of a shape: point 11 of the document."""

from quarterfold.errors import TooMany
from quarterfold.rows import FIRST, FULL
from quarterfold.tellings import want_shape

MOST_LEAVES = 2000


def count_leaves(top, rows):
    """How many leaves the shape with these rows has."""
    counts = [1, 1]
    for row in rows:
        counts.append(sum([counts[number] for number in row]))
    return counts[top]


def gather_leaves(rows, number, address, leaves):
    """Append the leaves of the square at the address, which stands by the number."""
    if number < FIRST:
        leaves.append((address, number == FULL))
        return
    for at, quarter in enumerate(rows[number - FIRST]):
        gather_leaves(rows, quarter, address + str(at), leaves)


def want_leaves(shape, most):
    """Refuse a shape with more leaves than that."""
    if count_leaves(shape[1], shape[2]) > most:
        raise TooMany(f"the shape has more than {most} leaves")


def want_coarse(shape):
    """Refuse a shape that isn't coarse."""
    want_leaves(shape, MOST_LEAVES)


def leaves_of(shape):
    """All leaves, tuples (address, True or False for full), sorted by address."""
    want_shape(shape)
    want_coarse(shape)
    top, rows = shape[1:]
    leaves = []
    gather_leaves(rows, top, "", leaves)
    return leaves
