"""Chains of leaves that touch, from one cell to another: point 21 of the document."""

from quarterfold.errors import NoCell, NotFull
from quarterfold.leaves import want_coarse
from quarterfold.made import is_cell_tuple
from quarterfold.tellings import want_shape
from quarterfold.touching import leaf_at, leaves_where, touching, want_way


def want_cells(n, cells):
    """Refuse where one of the things is no cell of a floor of size n."""
    if not all([is_cell_tuple(n, cell) for cell in cells]):
        raise NoCell("a cell is a tuple (row, column) on the floor")


def full_leaf_at(shape, cell):
    """The address of the leaf that has the cell; an empty one is refused."""
    address, is_leaf_full = leaf_at(shape, cell[0], cell[1])
    if not is_leaf_full:
        raise NotFull("the cell is empty")
    return address


def ways_to(shape, by, goal):
    """For each full leaf that is led to the goal: the next leaf on a shortest way there, None for the goal."""
    full_ones = leaves_where(shape, True)
    following = {goal: None}
    edge = [goal]
    while edge:
        farther = []
        for here in edge:
            for address in touching(shape, by, here):
                if address in full_ones and address not in following:
                    following[address] = here
                    farther.append(address)
        edge = farther
    return following


def chain(shape, by, cell, other_cell):
    """A list of as few full leaves as can be from the one cell to the other, None where no way leads there."""
    want_shape(shape)
    want_way(by)
    want_coarse(shape)
    want_cells(shape[0], (cell, other_cell))
    here = full_leaf_at(shape, cell)
    following = ways_to(shape, by, full_leaf_at(shape, other_cell))
    if here not in following:
        return None
    told = []
    while here is not None:
        told.append(here)
        here = following[here]
    return told
