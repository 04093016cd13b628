"""Parts and holes, and how they lie in one another: points 19 and 20 of the document."""

from quarterfold.deeds import joined
from quarterfold.leaves import want_coarse
from quarterfold.rows import EMPTY, FIRST, FULL, Book, shape_of
from quarterfold.tellings import want_shape
from quarterfold.touching import first_cell, hole_groups, leaf_at, part_groups, want_way


def want_parts(shape, by):
    """Refuse what is no shape, what is no way to touch, and a shape that isn't coarse."""
    want_shape(shape)
    want_way(by)
    want_coarse(shape)


def places_of(groups):
    """For each address that is in a group: the place of that group in the list."""
    return {address: place for place, group in enumerate(groups) for address in group}


def numbers_within(rows, number, address, places, book):
    """What each group has of the square at the address: a dict from the group's place to the book's number for it.

    Only groups that have a leaf there are in it, so all of them together are built in one way down.
    """
    if number < FIRST:
        return {places[address]: FULL} if address in places else {}
    quarters = [numbers_within(rows, quarter, address + str(at), places, book)
                for at, quarter in enumerate(rows[number - FIRST])]
    found = {place: True for quarter in quarters for place in quarter}
    return {place: book.number_for(tuple([quarter.get(place, EMPTY) for quarter in quarters])) for place in found}


def shapes_of_groups(shape, groups):
    """For each group the shape in which just its cells are full."""
    n, top, rows = shape
    book = Book()
    numbers = numbers_within(rows, top, "", places_of(groups), book)
    return [shape_of(n, numbers[place], book.kept) for place in range(len(groups))]


def parts_of(shape, by):
    """The parts, each a shape of the floor, in the order of their first cells."""
    want_parts(shape, by)
    return shapes_of_groups(shape, part_groups(shape, by))


def holes_of(shape, by):
    """The holes, each a shape of the floor, in the order of their first cells."""
    want_parts(shape, by)
    return shapes_of_groups(shape, hole_groups(shape, by))


def places_left_of(shape, groups, places):
    """For each group: what place the leaf left of its first cell has, None where it has none."""
    told = []
    for group in groups:
        row, column = first_cell(shape[0], group)
        told.append(None if column == 0 else places.get(leaf_at(shape, row, column - 1)[0]))
    return told


def nest(shape, by):
    """The tuple of two lists: for each part the number of its hole, or None; for each hole that of its part."""
    want_parts(shape, by)
    parts = part_groups(shape, by)
    holes = hole_groups(shape, by)
    return (places_left_of(shape, parts, places_of(holes)), places_left_of(shape, holes, places_of(parts)))


def filled(shape, by):
    """The shape in which all cells of holes are full, too."""
    want_parts(shape, by)
    cells = [address for group in hole_groups(shape, by) for address in group]
    if not cells:
        return shape
    # All holes taken as one group, so that the two shapes are joined once only.
    return joined(shape, shapes_of_groups(shape, [cells])[0])
