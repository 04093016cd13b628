"""Point 21: how many more parts there are than holes, of any shape."""

import unittest

from quarterfold.balance import balance
from quarterfold.errors import NoShape, NoWay
from quarterfold.leaves import count_leaves
from quarterfold.made import of_boxes, of_cells
from quarterfold.parts import holes_of, parts_of
from quarterfold.scales import larger
from quarterfold.tellings import empty, full
from quarterfold.turns import turned
from tests.aids import (bit_rows, cells_from_bits, checkered, holes_by_hand, layered_shape, long_shape, no_shapes,
                        odd_things, parts_by_hand, refusal_of, rings, scattered, scattered_shape, shape_by_hand, slope,
                        some_floors, stair)

WAYS = ("sides", "corners")


def many_bits(rows):
    return sum([bin(row).count("1") for row in rows])


def counted_by_sides(shape):
    """Full cells, less pairs that have a side in common, and full two by twos, counted row of cells by row."""
    rows = bit_rows(shape)
    level = [row & row >> 1 for row in rows]
    upright = [row & below for row, below in zip(rows, rows[1:])]
    two_by_twos = [row & below for row, below in zip(level, level[1:])]
    return many_bits(rows) - many_bits(level) - many_bits(upright) + many_bits(two_by_twos)


def counted_by_corners(shape):
    """Corners that full cells have, less sides, and full cells."""
    rows = bit_rows(shape)
    upright_sides = [row | row << 1 for row in rows]
    level_sides = [above | below for above, below in zip([0] + rows, rows + [0])]
    corners = [above | below for above, below in zip([0] + upright_sides, upright_sides + [0])]
    return many_bits(corners) - many_bits(upright_sides) - many_bits(level_sides) + many_bits(rows)


class SmallFloors(unittest.TestCase):
    def check(self, n, cells):
        shape = shape_by_hand(n, cells)
        self.assertEqual(balance(shape, "sides"), counted_by_sides(shape))
        self.assertEqual(balance(shape, "corners"), counted_by_corners(shape))
        for by in WAYS:
            self.assertEqual(balance(shape, by), len(parts_by_hand(cells, by)) - len(holes_by_hand(n, cells, by)))

    def test_small_floors(self):
        for n, cells in some_floors() + [(2, cells_from_bits(2, bits % 2 ** 16)) for bits in scattered(200, 4)]:
            self.check(n, cells)

    def test_around_one_cell(self):
        around = [(row, column) for row in range(3) for column in range(3)]
        for bits in range(512):
            self.check(2, [cell for at, cell in enumerate(around) if bits >> at & 1])

    def test_counted_by_hand(self):
        # A ring of eight cells: eight pairs, no two by two.
        ring = of_boxes(3, [(2, 2, 1, 3), (4, 2, 1, 3), (3, 2, 1, 1), (3, 4, 1, 1)])
        self.assertEqual([balance(ring, by) for by in WAYS], [0, 0])
        pair = of_cells(1, [(0, 0), (1, 1)])
        self.assertEqual([balance(pair, by) for by in WAYS], [2, 1])
        diamond = of_cells(3, [(2, 3), (3, 2), (3, 4), (4, 3)])
        self.assertEqual([balance(diamond, by) for by in WAYS], [4, 0])
        self.assertIs(type(balance(diamond, "sides")), int)


class AnyShape(unittest.TestCase):
    def test_plain_floors(self):
        for n in range(13):
            for by in WAYS:
                self.assertEqual(balance(empty(n), by), 0)
                self.assertEqual(balance(full(n), by), 1)

    def test_coarse_ones(self):
        shapes = [scattered_shape(n, many, seed) for n, many in ((12, 666), (12, 50), (6, 666)) for seed in range(2)]
        shapes += [of_cells(12, stair(300, 5, 8)), of_cells(12, slope(500)), of_boxes(5, rings(5, 8))]
        for shape in shapes:
            for by in WAYS:
                self.assertEqual(balance(shape, by), len(parts_of(shape, by)) - len(holes_of(shape, by)))

    def test_sixteen_million_leaves(self):
        shape = checkered(12)
        self.assertEqual(balance(shape, "sides"), 2 ** 23)
        # All corners but two of the floor's own, four sides and no side in common for each full cell.
        self.assertEqual(balance(shape, "corners"), 4097 ** 2 - 2 - 3 * 2 ** 23)
        stripes = of_boxes(12, [(2 * k, 0, 1, 4096) for k in range(2048)])
        self.assertEqual([balance(stripes, by) for by in WAYS], [2048, 2048])

    def test_not_coarse(self):
        shapes = [layered_shape(12, wide, seed) for wide, seed in ((2, 1), (5, 2), (30, 3), (95, 4))]
        shapes += [layered_shape(7, 20, 5), long_shape(), scattered_shape(12, 667, 6), scattered_shape(12, 3000, 7)]
        for shape in shapes:
            self.assertGreater(count_leaves(shape[1], shape[2]), 2000)
            self.assertEqual(balance(shape, "sides"), counted_by_sides(shape))
            self.assertEqual(balance(shape, "corners"), counted_by_corners(shape))

    def test_turned_and_larger_it_stays(self):
        for shape in (layered_shape(11, 12, 8), scattered_shape(9, 400, 9)):
            for by in WAYS:
                told = {balance(turned(shape, turn), by) for turn in range(8)}
                self.assertEqual(told, {balance(larger(shape), by)})


class Refusals(unittest.TestCase):
    def test_no_shape_ahead_of_no_way(self):
        for thing in no_shapes():
            for by in ("sides", "corners", "side", None):
                self.assertIs(refusal_of(balance, thing, by), NoShape)

    def test_no_way(self):
        for shape in (empty(0), full(3), of_cells(3, [(1, 1)]), checkered(12)):
            for thing in odd_things() + ["side", "Sides", "", None, True, ["sides"], ("sides",), b"sides"]:
                self.assertIs(refusal_of(balance, shape, thing), NoWay)

    def test_never_too_many(self):
        for by in WAYS:
            for shape in (scattered_shape(12, 667, 1), checkered(12), layered_shape(12, 40, 1)):
                self.assertIsNone(refusal_of(balance, shape, by))


if __name__ == "__main__":
    unittest.main()
