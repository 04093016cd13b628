"""Leaves that touch, and the groups that they make: what points 19 to 22 of the document rest on.

A group is the list of the addresses of the leaves of one part, or of one hole.
"""

from quarterfold.beside import leaves_beside, way_down
from quarterfold.errors import NoWay
from quarterfold.floors import address_at, box_at, is_cell, side_of
from quarterfold.leaves import leaves_of

SIDES = "sides"
CORNERS = "corners"


def want_way(by):
    """Refuse what is no way to touch."""
    if not isinstance(by, str) or by not in (SIDES, CORNERS):
        raise NoWay('cells touch by "sides" or by "corners"')


def other_way(by):
    """The way in which the empty cells of a hole touch."""
    return SIDES if by == CORNERS else CORNERS


def leaf_at(shape, row, column):
    """The tuple (address, True or False for full) of the leaf that has the cell."""
    n, top, rows = shape
    number, address = way_down(rows, top, address_at(n, row, column, 0))
    # On the way down to a cell the last square is a leaf, so its number is plain.
    return (address, bool(number))


def leaves_at_corners(shape, address):
    """The addresses of the leaves that have the cells beyond the corners of the square."""
    row, column, side = box_at(shape[0], address)
    cells = [(down, right) for down in (row - 1, row + side) for right in (column - 1, column + side)]
    return [leaf_at(shape, down, right)[0] for down, right in cells if is_cell(shape[0], down, right)]


def touching(shape, by, address):
    """The addresses of the leaves, full or empty, that touch the leaf at the address; some may come twice."""
    found = []
    for side in range(4):
        found.extend(leaves_beside(shape, address, side))
    if by == CORNERS:
        found.extend(leaves_at_corners(shape, address))
    return found


def leaves_where(shape, wanted):
    """A dict whose keys are the addresses of the leaves that are full, or of those that are empty."""
    return {address: True for address, is_leaf_full in leaves_of(shape) if is_leaf_full == wanted}


def take_group(shape, by, start, left):
    """The group that has the leaf at the start; its addresses are taken out of the dict of those that are left."""
    del left[start]
    group = [start]
    ahead = [start]
    while ahead:
        here = ahead.pop()
        for address in touching(shape, by, here):
            if address in left:
                del left[address]
                group.append(address)
                ahead.append(address)
    return group


def first_cell(n, group):
    """The first cell of the group: the first cell of a leaf comes ahead of its others."""
    return min([box_at(n, address)[:2] for address in group])


def groups_where(shape, by, wanted):
    """The groups of the leaves that are full, or of those that are empty, in the order of their first cells."""
    left = leaves_where(shape, wanted)
    groups = []
    for start in list(left):
        if start in left:
            groups.append(take_group(shape, by, start, left))
    return sorted(groups, key=lambda group: first_cell(shape[0], group))


def is_at_edge(n, address):
    """Whether the square has a cell in the floor's first or last row or column."""
    row, column, side = box_at(n, address)
    return min(row, column) == 0 or max(row, column) + side == side_of(n)


def is_hole(n, group):
    """Whether a group of empty leaves is a hole."""
    return not any([is_at_edge(n, address) for address in group])


def part_groups(shape, by):
    """The groups of the parts, in the order of their first cells."""
    return groups_where(shape, by, True)


def hole_groups(shape, by):
    """The groups of the holes, in the order of their first cells."""
    return [group for group in groups_where(shape, other_way(by), False) if is_hole(shape[0], group)]


def group_at(shape, by, row, column):
    """The group of the part or of the hole that has the cell, None where neither has it."""
    start, is_leaf_full = leaf_at(shape, row, column)
    left = leaves_where(shape, is_leaf_full)
    if is_leaf_full:
        return take_group(shape, by, start, left)
    group = take_group(shape, other_way(by), start, left)
    return group if is_hole(shape[0], group) else None
