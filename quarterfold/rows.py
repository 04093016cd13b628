"""What several files need to know of numbers and rows.

A number is EMPTY, FULL, or stands for a row: the row at place k has the number k + FIRST.
"""

EMPTY = 0
FULL = 1
FIRST = 2


def is_whole(thing):
    """Whether the thing is a whole number: True and False are none."""
    return isinstance(thing, int) and not isinstance(thing, bool)


def is_plain(row):
    """Whether the row is four times EMPTY or four times FULL."""
    return row[0] < FIRST and row == (row[0],) * 4


def quarters_of(rows, number):
    """The numbers of the four quarters; those of a plain square are as it is."""
    if number < FIRST:
        return (number,) * 4
    return rows[number - FIRST]


def number_at(rows, top, address):
    """The number by which the square at the address stands."""
    number = top
    for figure in address:
        number = quarters_of(rows, number)[int(figure)]
    return number


def depths_of(rows):
    """The depths of all numbers, each at its own place in the list."""
    depths = [0, 0]
    for row in rows:
        depths.append(1 + max([depths[number] for number in row]))
    return depths


def end_rows(rows, number, ended):
    """Put the places of the rows below the number, and its own, into the dict as they end."""
    if number < FIRST or number - FIRST in ended:
        return
    for quarter in rows[number - FIRST]:
        end_rows(rows, quarter, ended)
    ended[number - FIRST] = True


def places_as_ended(rows, top):
    """The places of the rows that the top needs, in the order in which they end.

    It goes as deep as the top is: call it only where that is at most a floor's size.
    """
    ended = {}
    end_rows(rows, top, ended)
    return list(ended)


def renumbered(row, numbers):
    """The row with each number exchanged for the one that is kept for it."""
    return tuple([numbers[number] for number in row])


def shape_of(n, top, rows):
    """The shape of size n with this top: the rows that it needs, in their order.

    Among the rows no two may be alike, and none may be plain.
    """
    numbers = {EMPTY: EMPTY, FULL: FULL}
    told = []
    for place in places_as_ended(rows, top):
        told.append(renumbered(rows[place], numbers))
        numbers[place + FIRST] = len(told) - 1 + FIRST
    return (n, numbers[top], tuple(told))


class Book:
    """Rows that are each kept once; a plain row is kept as a plain number."""

    def __init__(self):
        self.kept = []
        self.numbers = {}

    def number_for(self, row):
        """The number of the row, which is kept from now on."""
        if is_plain(row):
            return row[0]
        if row not in self.numbers:
            self.numbers[row] = len(self.kept) + FIRST
            self.kept.append(row)
        return self.numbers[row]

    def numbers_for(self, rows):
        """Keep the rows of a telling; the number here of each of its numbers, at its place in the list."""
        numbers = [EMPTY, FULL]
        for row in rows:
            numbers.append(self.number_for(renumbered(row, numbers)))
        return numbers
