"""Point 16: the leaves beside a square."""

import unittest

from quarterfold.beside import beside
from quarterfold.errors import NoAddress, NoShape, NoSide, TooMany
from quarterfold.floors import box_of
from quarterfold.leaves import leaves_of
from quarterfold.made import of_boxes, of_cells, with_square
from quarterfold.tellings import empty, full
from tests.aids import (all_addresses, checkered, leaf_of_each_cell, no_shapes, not_whole, odd_things, refusal_of,
                        scattered, scattered_shape, shape_by_hand, some_floors)

NO_SIDES = not_whole() + [True, False, 4, -1, 5, 10 ** 59, -(10 ** 59), "0", "1", [0], (0,), None]
NO_ADDRESSES = odd_things() + ["4", "0000000000000", "0 ", " 0", "0\n", ["0"], 0, ("0",), "01x", b"0"]


def next_cells(n, address, side):
    """The cells next to those of the square on that side, from the left or from above; some may be off the floor."""
    row, column, wide = box_of(n, address)
    return {0: [(row - 1, column + k) for k in range(wide)], 1: [(row + k, column + wide) for k in range(wide)],
            2: [(row + wide, column + k) for k in range(wide)], 3: [(row + k, column - 1) for k in range(wide)]}[side]


def beside_by_hand(n, leaf_of, address, side):
    """Straight from the words of point 16; leaf_of has the address of the leaf of each cell."""
    row, column, wide = box_of(n, address)
    own = {leaf_of[(row + down, column + right)] for down in range(wide) for right in range(wide)}
    told = []
    for cell in next_cells(n, address, side):
        leaf = leaf_of.get(cell)
        if leaf is not None and leaf not in own and leaf not in told:
            told.append(leaf)
    return told


class CellByCell(unittest.TestCase):
    def check(self, shape):
        leaf_of = leaf_of_each_cell(shape)
        for address in all_addresses(shape[0]):
            for side in range(4):
                told = beside(shape, address, side)
                self.assertIsInstance(told, list)
                self.assertEqual(told, beside_by_hand(shape[0], leaf_of, address, side))

    def test_some_floors(self):
        for n, cells in some_floors():
            if n < 3:
                self.check(shape_by_hand(n, cells))

    def test_leaves_of_many_sizes(self):
        for n, many in ((3, 4), (3, 8), (3, 15), (4, 6), (4, 20), (4, 45)):
            for seed in range(3):
                self.check(scattered_shape(n, many, seed))
        self.check(of_boxes(4, [(3, 2, 9, 7)]))


class ByHand(unittest.TestCase):
    # One full quarter of a quarter, in the middle of the floor: leaves 00 01 02 03 1 2 3.
    SHAPE = of_boxes(3, [(2, 2, 2, 2)])

    def test_a_greater_leaf_beside_lesser_squares(self):
        for address in ("01", "03", "011", "033", "0"):
            self.assertEqual(beside(self.SHAPE, address, 1), ["1"])
        self.assertEqual(beside(self.SHAPE, "032", 2), ["2"])

    def test_lesser_leaves_beside_a_greater_square(self):
        self.assertEqual(beside(self.SHAPE, "1", 3), ["01", "03"])
        self.assertEqual(beside(self.SHAPE, "2", 0), ["02", "03"])
        self.assertEqual(beside(self.SHAPE, "10", 3), ["01"])
        self.assertEqual(beside(self.SHAPE, "12", 3), ["03"])
        self.assertEqual(beside(checkered(2), "1", 3), ["01", "03"])
        self.assertEqual(beside(checkered(3), "0", 2), ["200", "201", "210", "211"])
        self.assertEqual(beside(checkered(3), "3", 0), ["122", "123", "132", "133"])

    def test_within_a_leaf(self):
        # 10 lies in the leaf 1 and at its left edge, 11 amid it but for the floor's edge.
        self.assertEqual([beside(self.SHAPE, "10", side) for side in range(4)], [[], [], [], ["01"]])
        self.assertEqual([beside(self.SHAPE, "11", side) for side in range(4)], [[], [], [], []])
        self.assertEqual([beside(self.SHAPE, "122", side) for side in range(4)], [[], [], ["3"], ["03"]])
        self.assertEqual([beside(self.SHAPE, "121", side) for side in range(4)], [[], [], [], []])

    def test_a_square_with_several_leaves(self):
        self.assertEqual([beside(self.SHAPE, "0", side) for side in range(4)], [[], ["1"], ["2"], []])
        self.assertEqual([beside(self.SHAPE, "3", side) for side in range(4)], [["1"], [], [], ["2"]])

    def test_the_edge_and_plain_floors(self):
        for n in (0, 1, 5, 12):
            for shape in (empty(n), full(n)):
                for address in ("", "0" * n, "3" * n, "12" * (n // 2)):
                    for side in range(4):
                        self.assertEqual(beside(shape, address, side), [])
        for side in range(4):
            self.assertEqual(beside(self.SHAPE, "", side), [])

    def test_a_corner_in_common_is_not_beside(self):
        self.assertEqual(beside(of_cells(1, [(0, 0), (1, 1)]), "0", 1), ["1"])
        self.assertEqual(beside(of_cells(1, [(0, 0), (1, 1)]), "0", 2), ["2"])


class GreatFloors(unittest.TestCase):
    def test_by_hand(self):
        shape = of_cells(12, [(2047, 2047)])
        self.assertEqual(beside(shape, "1", 3), ["01", "031", "0331"] + ["0" + "3" * k + "1" for k in range(3, 11)]
                         + ["0" + "3" * 11])
        self.assertEqual(beside(shape, "2", 0), ["0" + "3" * k + "2" for k in range(11)] + ["0" + "3" * 11])
        self.assertEqual(beside(shape, "0" + "3" * 11, 1), ["1"])
        self.assertEqual(beside(shape, "0" + "3" * 11, 2), ["2"])
        self.assertEqual(beside(shape, "0" + "3" * 11, 0), ["0" + "3" * 10 + "1"])
        self.assertEqual(beside(shape, "122222222222", 3), ["0" + "3" * 11])

    def test_against_all_leaves(self):
        for seed in range(3):
            shape = scattered_shape(12, 500, seed)
            boxes = {address: box_of(12, address) for address, is_full in leaves_of(shape)}
            addresses = sorted(boxes)
            for number in scattered(20, seed):
                leaf = addresses[number % len(addresses)]
                for address in (leaf, leaf[:-1], leaf[:-2], (leaf + "012301230123")[:12], (leaf + "3" * 12)[:12]):
                    for side in range(4):
                        self.assertEqual(beside(shape, address, side), self.by_boxes(boxes, address, side))

    def by_boxes(self, boxes, address, side):
        cells = next_cells(12, address, side)
        (first_row, first_column), (last_row, last_column) = cells[0], cells[-1]
        found = []
        for leaf, (row, column, wide) in boxes.items():
            meets = (row <= last_row and first_row < row + wide and column <= last_column
                     and first_column < column + wide)
            if meets and not address.startswith(leaf):
                found.append((column if side in (0, 2) else row, leaf))
        return [leaf for place, leaf in sorted(found)]


class Refusals(unittest.TestCase):
    def test_the_edge_of_coarse(self):
        for n in (6, 12):
            last, beyond = scattered_shape(n, 666, 1), scattered_shape(n, 667, 1)
            self.assertEqual(len(leaves_of(last)), 1999)
            for address in ("", "0", "123"):
                for side in range(4):
                    self.assertIsNone(refusal_of(beside, last, address, side))
                    self.assertIs(refusal_of(beside, beyond, address, side), TooMany)
                    self.assertIs(refusal_of(beside, checkered(12), address, side), TooMany)

    def test_no_side_ahead_of_too_many(self):
        for shape in (empty(3), of_cells(3, [(1, 1)]), checkered(12)):
            for thing in NO_SIDES:
                for address in ("", "012"):
                    self.assertIs(refusal_of(beside, shape, address, thing), NoSide)

    def test_no_address_ahead_of_no_side(self):
        for shape in (empty(3), of_cells(3, [(1, 1)]), checkered(12)):
            for address in NO_ADDRESSES:
                for side in (0, 3, 4, True, None):
                    self.assertIs(refusal_of(beside, shape, address, side), NoAddress)
        self.assertIs(refusal_of(beside, empty(3), "0000", 0), NoAddress)
        self.assertIs(refusal_of(beside, empty(0), "0", 0), NoAddress)

    def test_no_shape_ahead_of_all(self):
        for thing in no_shapes():
            for address in ("", "9", None):
                for side in (0, 4, None):
                    self.assertIs(refusal_of(beside, thing, address, side), NoShape)


class TheAskersOwn(unittest.TestCase):
    def test_a_told_list_has_no_bearing_later(self):
        shape = with_square(empty(3), "03", full(1))
        told = beside(shape, "1", 3)
        self.assertEqual(told, ["01", "03"])
        told.append("9")
        told[0] = None
        self.assertEqual(beside(shape, "1", 3), ["01", "03"])
        edge = beside(shape, "", 0)
        edge.append("9")
        self.assertEqual(beside(shape, "", 0), [])
        self.assertEqual(shape, with_square(empty(3), "03", full(1)))


if __name__ == "__main__":
    unittest.main()
