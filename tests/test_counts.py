"""Point 24: counts of any shape, sums and bounds."""

import unittest

from quarterfold.counts import bounds, many_cells, many_leaves, many_unplain, sum_of
from quarterfold.errors import NoNumber, NoShape
from quarterfold.leaves import leaves_of
from quarterfold.made import of_boxes, of_cells
from quarterfold.tellings import empty, full
from tests.aids import (bit_rows, checkered, layered_shape, long_shape, no_shapes, odd_things, refusal_of,
                        scattered_shape, shape_by_hand, some_floors)

# Numbers of thirty figures of either sign, and small ones.
FACTORS = ((1, 0, 0), (0, 1, 0), (0, 0, 1), (0, 0, 0), (3, -7, 5), (-1, -1, -1),
           (10 ** 29, -(10 ** 29) - 7, 10 ** 30 - 1), (-(10 ** 30) + 1, 10 ** 30 - 1, 0),
           (123456789012345678901234567890, 987654321098765432109876543210, -5))


def unplain_by_hand(n, cells, k):
    """How many squares of size k have both full and empty cells, reckoned from cells."""
    counts = {}
    for row, column in cells:
        square = (row >> k, column >> k)
        counts[square] = counts.get(square, 0) + 1
    return len([square for square in counts if counts[square] < 4 ** k])


def folded(rows, k, together):
    """For each band of 2 ** k rows a number with a bit for each square of size k, and others that don't count."""
    bands = []
    for first in range(0, len(rows), 2 ** k):
        band = rows[first]
        for row in rows[first + 1:first + 2 ** k]:
            band = together(band, row)
        for step in range(k):
            band = together(band, band >> 2 ** step)
        bands.append(band)
    return bands


def unplain_by_bits(n, rows, k):
    """The same from rows of bits, for great floors."""
    some = folded(rows, k, lambda one, other: one | other)
    every = folded(rows, k, lambda one, other: one & other)
    first_columns = sum([1 << column for column in range(0, 2 ** n, 2 ** k)])
    return sum([bin((one ^ all_of) & first_columns).count("1") for one, all_of in zip(some, every)])


def sums_by_bits(rows):
    """How many cells are full, the sum of their rows and that of their columns."""
    counts = [bin(row).count("1") for row in rows]
    down = sum([at * count for at, count in enumerate(counts)])
    right, k = 0, 0
    # A column is the sum of its bits: for each bit, how many full cells lie in columns that have it.
    while 2 ** k < len(rows):
        mask = sum([1 << column for column in range(len(rows)) if column >> k & 1])
        right += 2 ** k * sum([bin(row & mask).count("1") for row in rows])
        k += 1
    return (sum(counts), down, right)


def bounds_by_bits(rows):
    full_rows = [at for at, row in enumerate(rows) if row]
    if not full_rows:
        return None
    together = 0
    for row in rows:
        together |= row
    first_column = (together & -together).bit_length() - 1
    return (full_rows[0], first_column, full_rows[-1], together.bit_length() - 1)


class SmallFloors(unittest.TestCase):
    def check(self, n, cells):
        shape = shape_by_hand(n, cells)
        self.assertEqual(many_cells(shape), len(cells))
        self.assertEqual(many_leaves(shape), len(leaves_of(shape)))
        unplain = [many_unplain(shape, k) for k in range(1, n + 1)]
        self.assertEqual(unplain, [unplain_by_hand(n, cells, k) for k in range(1, n + 1)])
        self.assertEqual(many_leaves(shape), 1 + 3 * sum(unplain))
        for a, b, c in FACTORS:
            self.assertEqual(sum_of(shape, a, b, c), sum([a * row + b * column + c for row, column in cells]))
        rows, columns = [cell[0] for cell in cells], [cell[1] for cell in cells]
        self.assertEqual(bounds(shape), (min(rows), min(columns), max(rows), max(columns)) if cells else None)

    def test_small_floors(self):
        for n, cells in some_floors():
            self.check(n, cells)

    def test_one_cell(self):
        for n in (1, 2, 3):
            for row in range(2 ** n):
                for column in range(2 ** n):
                    self.check(n, [(row, column)])

    def test_kinds(self):
        shape = of_cells(3, [(1, 2), (5, 7)])
        for told in (many_cells(shape), many_leaves(shape), many_unplain(shape, 2), sum_of(shape, 1, 2, 3)):
            self.assertIs(type(told), int)
        self.assertEqual((bounds(shape), type(bounds(shape))), ((1, 2, 5, 7), tuple))


class GreatFloors(unittest.TestCase):
    def check(self, shape):
        n = shape[0]
        rows = bit_rows(shape)
        cells, down, right = sums_by_bits(rows)
        self.assertEqual(many_cells(shape), cells)
        for a, b, c in FACTORS:
            self.assertEqual(sum_of(shape, a, b, c), a * down + b * right + c * cells)
        self.assertEqual(bounds(shape), bounds_by_bits(rows))
        unplain = [many_unplain(shape, k) for k in range(1, n + 1)]
        self.assertEqual(unplain, [unplain_by_bits(n, rows, k) for k in range(1, n + 1)])
        self.assertEqual(many_leaves(shape), 1 + 3 * sum(unplain))

    def test_not_coarse(self):
        for shape in (layered_shape(12, 3, 1), layered_shape(12, 90, 2), long_shape(), scattered_shape(12, 667, 3),
                      scattered_shape(12, 666, 4), of_boxes(12, [(5, 9, 3000, 7), (77, 2000, 1000, 1001)]),
                      of_cells(12, [(4000, 4090), (4001, 1)])):
            self.check(shape)

    def test_sixteen_million_leaves(self):
        shape = checkered(12)
        self.check(shape)
        self.assertEqual((many_cells(shape), many_leaves(shape)), (2 ** 23, 2 ** 24))
        self.assertEqual([many_unplain(shape, k) for k in range(1, 13)], [4 ** (12 - k) for k in range(1, 13)])
        self.assertEqual(bounds(shape), (0, 0, 4095, 4095))

    def test_plain_floors(self):
        for n in range(13):
            side = 2 ** n
            self.assertEqual((many_cells(empty(n)), many_leaves(empty(n)), bounds(empty(n))), (0, 1, None))
            self.assertEqual((many_cells(full(n)), many_leaves(full(n))), (4 ** n, 1))
            self.assertEqual(bounds(full(n)), (0, 0, side - 1, side - 1))
            for k in range(1, n + 1):
                self.assertEqual((many_unplain(empty(n), k), many_unplain(full(n), k)), (0, 0))
            along = side * side * (side - 1) // 2
            self.assertEqual(sum_of(full(n), 10 ** 29, -3, 7), 10 ** 29 * along - 3 * along + 7 * side * side)
            self.assertEqual(sum_of(empty(n), 10 ** 29, -3, 7), 0)


class Refusals(unittest.TestCase):
    def test_no_shape(self):
        for thing in no_shapes():
            for deed in (many_cells, many_leaves, bounds):
                self.assertIs(refusal_of(deed, thing), NoShape)
            self.assertIs(refusal_of(sum_of, thing, 1, 2, 3), NoShape)
            for k in (1, 0, None, "1"):
                self.assertIs(refusal_of(many_unplain, thing, k), NoShape)

    def test_no_number(self):
        for n in range(13):
            for shape in (empty(n), full(n)) + ((checkered(n),) if n else ()):
                for thing in odd_things() + [0, n + 1, -1, True, False, "1", None, 10 ** 59, [1], (1,)]:
                    self.assertIs(refusal_of(many_unplain, shape, thing), NoNumber)
                for k in range(1, n + 1):
                    self.assertIsNone(refusal_of(many_unplain, shape, k))
        for k in (0, 1, 2, 12):
            self.assertIs(refusal_of(many_unplain, full(0), k), NoNumber)


if __name__ == "__main__":
    unittest.main()
