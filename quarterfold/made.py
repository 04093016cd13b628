"""Shapes made of cells, boxes and other shapes, and read: point 10 of the document."""

from quarterfold.errors import NoBox, NoCell, OtherFloor, TooMany
from quarterfold.floors import address_of, is_cell, side_of, want_address, want_floor
from quarterfold.rows import EMPTY, FIRST, FULL, Book, is_whole, number_at, quarters_of, shape_of
from quarterfold.tellings import want_shape

MOST_CELLS = 5000


def is_list(thing):
    """Whether the thing is a list: a tuple does as well."""
    return isinstance(thing, (list, tuple))


def is_cell_tuple(n, thing):
    """Whether the thing is a cell of a floor of size n."""
    return isinstance(thing, tuple) and len(thing) == 2 and is_cell(n, thing[0], thing[1])


def is_box(n, thing):
    """Whether the thing is a box on a floor of size n."""
    if not isinstance(thing, tuple) or len(thing) != 4 or not all([is_whole(number) for number in thing]):
        return False
    row, column, high, wide = thing
    side = side_of(n)
    return row >= 0 and column >= 0 and high >= 1 and wide >= 1 and row + high <= side and column + wide <= side


def within(frames, row, column, side):
    """What the frames have in a square: frames again, counted from its first cell, sorted, each once.

    A frame is a box told as (first row, first column, row behind the last, column behind the last).
    """
    inside = [(max(first_row - row, 0), max(first_column - column, 0), min(end_row - row, side),
               min(end_column - column, side)) for first_row, first_column, end_row, end_column in frames]
    return sorted({frame for frame in inside if frame[0] < frame[2] and frame[1] < frame[3]})


def framed_number(book, known, side, frames):
    """The number of a square of that side in which the frames are full.

    Squares of one side with the same frames are reckoned once only: great boxes cross many of them alike.
    """
    if not frames:
        return EMPTY
    if (0, 0, side, side) in frames:
        return FULL
    key = (side, tuple(frames))
    if key not in known:
        half = side // 2
        corners = ((0, 0), (0, half), (half, 0), (half, half))
        known[key] = book.number_for(tuple([
            framed_number(book, known, half, within(frames, row, column, half)) for row, column in corners]))
    return known[key]


def shape_of_boxes(n, boxes):
    """The shape of size n in which the boxes are full, but for what of them is off the floor."""
    side = side_of(n)
    frames = [(row, column, row + high, column + wide) for row, column, high, wide in boxes]
    book = Book()
    top = framed_number(book, {}, side, within(frames, 0, 0, side))
    return shape_of(n, top, book.kept)


def of_cells(n, cells):
    """The shape of size n in which these cells are full."""
    want_floor(n)
    if not is_list(cells) or not all([is_cell_tuple(n, cell) for cell in cells]):
        raise NoCell("a cell is a tuple (row, column) on the floor")
    return shape_of_boxes(n, [(row, column, 1, 1) for row, column in cells])


def of_boxes(n, boxes):
    """The shape of size n in which the cells of these boxes are full."""
    want_floor(n)
    if not is_list(boxes) or not all([is_box(n, box) for box in boxes]):
        raise NoBox("a box is a tuple (row, column, high, wide), all on the floor")
    return shape_of_boxes(n, boxes)


def is_full(shape, row, column):
    """Whether the cell is full."""
    want_shape(shape)
    n, top, rows = shape
    # What is no cell has no address: address_of refuses it.
    return number_at(rows, top, address_of(n, row, column, 0)) == FULL


def count_cells(n, top, rows):
    """How many cells are full in the shape.

    Each number is counted as if it stood for the whole floor: a quarter has a fourth of that, and as no row
    of a shape is deeper than its floor, no count is broken.
    """
    counts = [0, side_of(n) * side_of(n)]
    for row in rows:
        counts.append(sum([counts[number] for number in row]) // 4)
    return counts[top]


def gather_cells(rows, number, box, cells):
    """Append the full cells of the square with the box (row, column, side), which stands by the number."""
    row, column, side = box
    if number == FULL:
        cells.extend([(row + down, column + right) for down in range(side) for right in range(side)])
    if number < FIRST:
        return
    half = side // 2
    for at, quarter in enumerate(rows[number - FIRST]):
        gather_cells(rows, quarter, (row + half * (at // 2), column + half * (at & 1), half), cells)


def cells_of(shape):
    """The list of the full cells in order."""
    want_shape(shape)
    n, top, rows = shape
    if count_cells(n, top, rows) > MOST_CELLS:
        raise TooMany("the shape has more than 5,000 full cells")
    cells = []
    gather_cells(rows, top, (0, 0, side_of(n)), cells)
    return sorted(cells)


def square_at(shape, address):
    """The shape of the square at the address, on a floor of its size."""
    want_shape(shape)
    n, top, rows = shape
    want_address(n, address)
    return shape_of(n - len(address), number_at(rows, top, address), rows)


def put_in(book, number, address, new):
    """The number of a square that stood by the number, with the new number at the address in it."""
    if address == "":
        return new
    quarters = list(quarters_of(book.kept, number))
    at = int(address[0])
    quarters[at] = put_in(book, quarters[at], address[1:], new)
    return book.number_for(tuple(quarters))


def with_square(shape, address, other):
    """The shape in which the square at the address is the other shape."""
    want_shape(shape)
    want_shape(other)
    n, top, rows = shape
    want_address(n, address)
    size, other_top, other_rows = other
    if size != n - len(address):
        raise OtherFloor("the other shape is not of the size of the square at the address")
    book = Book()
    numbers = book.numbers_for(rows)
    other_numbers = book.numbers_for(other_rows)
    return shape_of(n, put_in(book, numbers[top], address, other_numbers[other_top]), book.kept)
