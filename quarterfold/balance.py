"""How many more parts there are than holes, of any shape: point 21 of the document."""

from quarterfold.deeds import exchanged, exchanged_rows
from quarterfold.rows import EMPTY, FIRST, FULL, quarters_of
from quarterfold.tellings import want_shape
from quarterfold.touching import SIDES, want_way


def corners_of(rows):
    """For each number, at its place in the list: whether the cells at the four corners of its square are full."""
    corners = [(False,) * 4, (True,) * 4]
    for row in rows:
        corners.append(tuple([corners[number][at] for at, number in enumerate(row)]))
    return corners


def turned_about(four):
    """Four squares with those on the right above and those below on the left exchanged."""
    return (four[0], four[2], four[1], four[3])


class Account:
    """The balance by sides, reckoned row by row: cells, less pairs of them, and two by twos.

    A plain square counts alike whatever its size is, so no size is asked for.
    """

    def __init__(self, rows):
        self.rows = rows
        self.corners = corners_of(rows)
        self.known = {}

    def in_the_middle(self, four):
        """How many two by twos are full amid four squares, of each of which they have a corner."""
        return int(all([self.corners[number][3 - at] for at, number in enumerate(four)]))

    def across(self, one, other, is_upright):
        """What two squares count together, one on the right of the other, or below it, but for each alone.

        Those are the two by twos over the side in common, less the pairs there: of full squares one pair is left.
        """
        if EMPTY in (one, other):
            return 0
        if one == other == FULL:
            return -1
        key = (one, other, is_upright)
        if key not in self.known:
            mine = quarters_of(self.rows, one)
            theirs = quarters_of(self.rows, other)
            if is_upright:
                four = (mine[2], mine[3], theirs[0], theirs[1])
            else:
                four = (mine[1], theirs[0], mine[3], theirs[2])
            self.known[key] = self.over_both(four, is_upright) + self.in_the_middle(four)
        return self.known[key]

    def over_both(self, four, is_upright):
        """What four squares count over the two sides in common that lie behind one another, level or upright."""
        first, second, third, fourth = turned_about(four) if is_upright else four
        return self.across(first, second, is_upright) + self.across(third, fourth, is_upright)

    def together(self, four):
        """What four squares count together, but for each alone."""
        return self.over_both(four, False) + self.over_both(four, True) + self.in_the_middle(four)

    def of_number(self, top):
        """What the square counts that stands by the number."""
        counts = [0, 1]
        for row in self.rows:
            counts.append(sum([counts[number] for number in row]) + self.together(row))
        return counts[top]


def balance(shape, by):
    """How many parts there are by that way, less how many holes."""
    want_shape(shape)
    want_way(by)
    top, rows = shape[1:]
    if by == SIDES:
        return Account(rows).of_number(top)
    # What is left out, on a floor full all around, has by sides the holes as parts and the parts as holes, and
    # one part more: corners and two by twos, sides and pairs, full and empty cells make up those of that floor.
    amid = len(rows) + FIRST
    around = exchanged_rows(rows) + ((FULL, FULL, FULL, exchanged(top)), (amid, FULL, FULL, FULL))
    return 1 - Account(around).of_number(amid + 1)
