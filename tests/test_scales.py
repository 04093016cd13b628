"""Point 15: shapes made larger and lesser."""

import unittest

from quarterfold.errors import NoFloor, NoNumber, NoShape
from quarterfold.made import of_cells
from quarterfold.scales import larger, lesser
from quarterfold.tellings import empty, full, is_shape
from tests.aids import (cells_told, checkered, layered_shape, long_shape, no_shapes, not_whole, number_of_cell,
                        refusal_of, scattered_cells, scattered_shape, shape_by_hand, some_floors)

A = (0, 1, 1, 0)
FOUR = ((0, 0), (0, 1), (1, 0), (1, 1))
NO_NUMBERS = not_whole() + [True, False, 0, 5, -1, 10 ** 59, -(10 ** 59), "1", [1], (1,), None]


def larger_by_hand(n, cells):
    return shape_by_hand(n + 1, [(2 * row + down, 2 * column + right) for row, column in cells for down, right in FOUR])


def lesser_by_hand(n, cells, k):
    half = 2 ** n // 2
    many = {(row, column): len([at for at in FOUR if (2 * row + at[0], 2 * column + at[1]) in cells])
            for row in range(half) for column in range(half)}
    return shape_by_hand(n - 1, [cell for cell in many if many[cell] >= k])


def great_shapes():
    return [checkered(11), layered_shape(11, 20, 1), long_shape(), scattered_shape(11, 666, 2)]


class Larger(unittest.TestCase):
    def test_cell_by_cell(self):
        for n, cells in some_floors():
            self.assertEqual(larger(shape_by_hand(n, cells)), larger_by_hand(n, cells))

    def test_by_hand(self):
        self.assertEqual(larger(of_cells(1, [(0, 1)])), of_cells(2, [(0, 2), (0, 3), (1, 2), (1, 3)]))
        for n in range(12):
            self.assertEqual(larger(empty(n)), empty(n + 1))
            self.assertEqual(larger(full(n)), full(n + 1))

    def test_great_shapes(self):
        for shape in great_shapes():
            told = larger(shape)
            self.assertIs(is_shape(told), True)
            self.assertEqual(told[0], shape[0] + 1)
            for row, column in scattered_cells(told[0], 100, 4):
                self.assertEqual(number_of_cell(told, row, column), number_of_cell(shape, row // 2, column // 2))
            for k in range(1, 5):
                self.assertEqual(lesser(told, k), shape)

    def test_refusals(self):
        for shape in (empty(12), full(12), checkered(12), of_cells(12, [(0, 0)])):
            self.assertIs(refusal_of(larger, shape), NoFloor)
        for thing in no_shapes():
            self.assertIs(refusal_of(larger, thing), NoShape)


class Lesser(unittest.TestCase):
    def test_cell_by_cell(self):
        for n, cells in some_floors():
            if n > 0:
                for k in range(1, 5):
                    self.assertEqual(lesser(shape_by_hand(n, cells), k), lesser_by_hand(n, cells, k))

    def test_leaves_of_many_sizes(self):
        for seed in range(10):
            shape = scattered_shape(5, 60, seed)
            for k in range(1, 5):
                self.assertEqual(lesser(shape, k), lesser_by_hand(5, cells_told(shape), k))

    def test_one_row_at_several_sizes(self):
        # The row A stands for a square of size 2 and for one of size 1; only the latter comes to be a cell.
        shape = (3, 4, (A, (2, 0, 0, 0), (2, 3, 0, 0)))
        self.assertEqual(lesser(shape, 2), (2, 4, ((0, 1, 1, 0), (1, 0, 0, 0), (2, 3, 0, 0))))
        self.assertEqual(lesser(shape, 3), (2, 3, ((0, 1, 1, 0), (2, 0, 0, 0))))

    def test_by_hand(self):
        for many in range(5):
            shape = of_cells(1, FOUR[:many])
            self.assertEqual([lesser(shape, k) for k in range(1, 5)], [(0, int(many >= k), ()) for k in range(1, 5)])
        for n in range(1, 13):
            for k in range(1, 5):
                self.assertEqual(lesser(empty(n), k), empty(n - 1))
                self.assertEqual(lesser(full(n), k), full(n - 1))

    def test_great_shapes(self):
        self.assertEqual([lesser(checkered(12), k) for k in range(1, 5)], [full(11), full(11), empty(11), empty(11)])
        for shape in great_shapes() + [layered_shape(12, 25, 3)]:
            for k in range(1, 5):
                told = lesser(shape, k)
                self.assertIs(is_shape(told), True)
                self.assertEqual(told[0], shape[0] - 1)
                for row, column in scattered_cells(told[0], 60, k):
                    many = sum([number_of_cell(shape, 2 * row + down, 2 * column + right) for down, right in FOUR])
                    self.assertEqual(number_of_cell(told, row, column), int(many >= k))

    def test_no_number(self):
        for shape in (empty(1), full(12), checkered(12), of_cells(3, [(1, 1)])):
            for thing in NO_NUMBERS:
                self.assertIs(refusal_of(lesser, shape, thing), NoNumber)

    def test_no_floor_ahead_of_no_number(self):
        for shape in (empty(0), full(0)):
            for k in [1, 2, 3, 4] + NO_NUMBERS:
                self.assertIs(refusal_of(lesser, shape, k), NoFloor)

    def test_no_shape_ahead_of_all(self):
        for thing in no_shapes():
            for k in (1, 4, 0, 5, True, None):
                self.assertIs(refusal_of(lesser, thing, k), NoShape)

    def test_the_same_again(self):
        shape = layered_shape(12, 25, 3)
        told = [lesser(shape, k) for k in range(1, 5)]
        refusal_of(lesser, shape, 5)
        self.assertEqual([lesser(shape, k) for k in range(1, 5)], told)


if __name__ == "__main__":
    unittest.main()
