"""Point 18: shapes grown and shrunk."""

import unittest

from quarterfold.deeds import cut, left_out, lies_in
from quarterfold.errors import NoNumber, NoShape, TooMany
from quarterfold.grown import grown, shrunk
from quarterfold.leaves import count_leaves, leaves_of
from quarterfold.made import of_boxes, of_cells
from quarterfold.near import inside, nearest
from quarterfold.tellings import empty, full, is_shape
from tests.aids import (cells_told, checkered, layered_shape, no_shapes, not_whole, number_of_cell, refusal_of,
                        scattered_cells, scattered_shape, shape_by_hand, some_floors)

NO_NUMBERS = not_whole() + [True, False, 4097, -1, 10 ** 59, -(10 ** 59), "1", "", [1], (1,), None]


def block(cell, far):
    """All cells within so many rows and columns, counted on beyond the floor."""
    return [(cell[0] + down, cell[1] + right) for down in range(-far, far + 1) for right in range(-far, far + 1)]


def grown_by_hand(n, cells, far):
    side = 2 ** n
    far = min(far, side)
    every = [(row, column) for row in range(side) for column in range(side)]
    return shape_by_hand(n, [cell for cell in every if any([there in cells for there in block(cell, far)])])


def shrunk_by_hand(n, cells, far):
    far = min(far, 2 ** n)
    return shape_by_hand(n, [cell for cell in cells if all([there in cells for there in block(cell, far)])])


def few_leaves(shape):
    return count_leaves(shape[1], shape[2]) <= 200


class CellByCell(unittest.TestCase):
    def check(self, n, cells, fars):
        shape = shape_by_hand(n, cells)
        for far in fars:
            self.assertEqual(grown(shape, far), grown_by_hand(n, set(cells), far))
            self.assertEqual(shrunk(shape, far), shrunk_by_hand(n, set(cells), far))

    def test_some_floors(self):
        for n, cells in some_floors():
            self.check(n, cells, (0, 1, 2, 2 ** n - 1, 2 ** n, 2 ** n + 1, 4096) if n < 3 else (0, 1, 2, 9, 4096))

    def test_leaves_of_many_sizes(self):
        for seed in range(4):
            for n, many in ((3, 5), (4, 8), (4, 30)):
                shape = scattered_shape(n, many, seed)
                self.check(n, sorted(cells_told(shape)), (0, 1, 3))
        cells = cells_told(of_boxes(4, [(0, 0, 9, 16), (7, 3, 9, 8)]))
        self.check(4, sorted(cells), (0, 1, 2, 3, 4, 5))

    def test_by_hand(self):
        cell = of_cells(3, [(3, 4)])
        self.assertEqual(grown(cell, 1), of_boxes(3, [(2, 3, 3, 3)]))
        self.assertEqual(grown(cell, 4), of_boxes(3, [(0, 0, 8, 8)]))
        self.assertEqual(grown(cell, 3), of_boxes(3, [(0, 1, 7, 7)]))
        self.assertEqual(shrunk(of_boxes(3, [(2, 3, 3, 3)]), 1), cell)
        self.assertEqual(shrunk(of_boxes(3, [(0, 0, 3, 3)]), 1), of_cells(3, [(1, 1)]))

    def test_a_corner_is_as_far_as_a_side(self):
        self.assertEqual(grown(of_cells(1, [(0, 0)]), 1), full(1))


class PlainFloors(unittest.TestCase):
    def test_of_every_size(self):
        for n in range(13):
            side = 2 ** n
            for far in (0, 1, side // 2, side - 1, side, 4096):
                self.assertEqual(grown(empty(n), far), empty(n))
                self.assertEqual(grown(full(n), far), full(n))
                self.assertEqual(shrunk(empty(n), far), empty(n))
                # What is off the floor is not full.
                left = side - 2 * far
                self.assertEqual(shrunk(full(n), far), of_boxes(n, [(far, far, left, left)] if left > 0 else []))


class GreatFloors(unittest.TestCase):
    def test_by_hand(self):
        corner = of_cells(12, [(0, 0)])
        self.assertEqual(grown(corner, 4096), full(12))
        self.assertEqual(grown(corner, 4095), full(12))
        self.assertEqual(grown(corner, 4094), of_boxes(12, [(0, 0, 4095, 4095)]))
        box = of_boxes(12, [(1024, 2048, 512, 1024)])
        self.assertEqual(grown(box, 100), of_boxes(12, [(924, 1948, 712, 1224)]))
        self.assertEqual(grown(box, 1500), of_boxes(12, [(0, 548, 3036, 3548)]))
        self.assertEqual(shrunk(box, 100), of_boxes(12, [(1124, 2148, 312, 824)]))
        self.assertEqual(shrunk(box, 255), of_boxes(12, [(1279, 2303, 2, 514)]))
        self.assertEqual(shrunk(box, 256), empty(12))
        edge = of_boxes(12, [(0, 0, 2048, 4096)])
        self.assertEqual(shrunk(edge, 10), of_boxes(12, [(10, 10, 2028, 4076)]))
        self.assertEqual(grown(edge, 10), of_boxes(12, [(0, 0, 2058, 4096)]))

    def test_as_near_and_as_deep(self):
        for seed in range(4):
            shape = scattered_shape(12, 66, seed)
            for far in (0, 1, 17, 300, 1000):
                more, less = grown(shape, far), shrunk(shape, far)
                self.assertTrue(is_shape(more) and is_shape(less))
                for row, column in scattered_cells(12, 60, seed + 9):
                    near = nearest(shape, row, column)[0] <= far
                    self.assertEqual(number_of_cell(more, row, column), int(near))
                    is_empty = number_of_cell(shape, row, column) == 0
                    deep = not is_empty and inside(shape, row, column)[0] >= far
                    self.assertEqual(number_of_cell(less, row, column), int(deep))


class AddsUp(unittest.TestCase):
    def shapes(self):
        shapes = [scattered_shape(n, many, seed) for n, many in ((4, 9), (5, 12), (6, 20), (12, 9))
                  for seed in range(3)]
        return shapes + [of_cells(12, [(2000, 3)]), of_boxes(7, [(64, 64, 32, 16)]), full(5), empty(5)]

    def test_grown_twice_and_shrunk_twice(self):
        asked = 0
        for shape in self.shapes():
            for first, second in ((0, 3), (1, 1), (2, 1), (1, 5), (512, 77), (4, 4092)):
                between = grown(shape, first)
                if few_leaves(between):
                    asked += 1
                    self.assertEqual(grown(between, second), grown(shape, first + second))
                between = shrunk(shape, first)
                if few_leaves(between):
                    asked += 1
                    self.assertEqual(shrunk(between, second), shrunk(shape, first + second))
        self.assertGreater(asked, 60)

    def test_shrunk_and_grown_lies_in_the_shape(self):
        asked = 0
        for shape in self.shapes():
            for far in (0, 1, 2, 64, 256, 4096):
                self.assertTrue(lies_in(shrunk(shape, far), shape) and lies_in(shape, grown(shape, far)))
                if few_leaves(shrunk(shape, far)):
                    asked += 1
                    self.assertIs(lies_in(grown(shrunk(shape, far), far), shape), True)
            self.assertEqual((grown(shape, 0), shrunk(shape, 0)), (shape, shape))
        self.assertGreater(asked, 60)

    def test_what_is_empty_shrinks_where_the_shape_grows(self):
        for shape in self.shapes():
            n, side = shape[0], 2 ** shape[0]
            for far in (1, 3, 100):
                left = side - 2 * far
                kept = of_boxes(n, [(far, far, left, left)] if left > 0 else [])
                self.assertEqual(shrunk(left_out(shape), far), cut(left_out(grown(shape, far)), kept))


class Refusals(unittest.TestCase):
    def test_two_hundred_leaves(self):
        for n in (5, 12):
            last, beyond = scattered_shape(n, 66, 1), scattered_shape(n, 67, 1)
            self.assertEqual((len(leaves_of(last)), len(leaves_of(beyond))), (199, 202))
            for deed in (grown, shrunk):
                for far in (0, 1, 4096):
                    self.assertIs(is_shape(deed(last, far)), True)
                    self.assertIs(refusal_of(deed, beyond, far), TooMany)
        for shape in (checkered(12), checkered(4), layered_shape(12, 20, 1)):
            for deed in (grown, shrunk):
                self.assertIs(refusal_of(deed, shape, 0), TooMany)

    def test_no_number_ahead_of_too_many(self):
        for shape in (empty(0), full(12), of_cells(3, [(1, 1)]), checkered(12)):
            for thing in NO_NUMBERS:
                for deed in (grown, shrunk):
                    self.assertIs(refusal_of(deed, shape, thing), NoNumber)

    def test_no_shape_ahead_of_all(self):
        for thing in no_shapes():
            for far in (0, 4096, 4097, -1, True, None):
                for deed in (grown, shrunk):
                    self.assertIs(refusal_of(deed, thing, far), NoShape)


class TheSameAgain(unittest.TestCase):
    def test_asked_again_it_is_alike(self):
        shape = scattered_shape(12, 66, 2)
        told = [deed(shape, far) for deed in (grown, shrunk) for far in (0, 5, 99)]
        refusal_of(grown, shape, 4097)
        self.assertEqual([deed(shape, far) for deed in (grown, shrunk) for far in (0, 5, 99)], told)


if __name__ == "__main__":
    unittest.main()
