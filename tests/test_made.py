"""Point 10: shapes made of cells and boxes, read, taken out and put in; with points 2 and 11."""

import unittest

from quarterfold.errors import NoAddress, NoBox, NoCell, NoFloor, NoShape, OtherFloor, TooMany
from quarterfold.floors import box_of
from quarterfold.made import cells_of, is_full, of_boxes, of_cells, square_at, with_square
from quarterfold.tellings import empty, full, is_shape
from tests.aids import (Prickly, all_addresses, cells_from_bits, cells_told, checkered, long_shape, no_shapes,
                        number_of_cell, odd_things, scattered, shape_by_hand, some_floors)

A = (0, 1, 1, 0)
NO_SIZES = [-1, 13, True, False, None, "3", [3], (3,)]
LIST = [(0, 0), (0, 3), (5, 1), (6, 6), (7, 6)]


def cells_of_boxes(boxes):
    return {(row + down, column + right) for row, column, high, wide in boxes
            for down in range(high) for right in range(wide)}


class OfCells(unittest.TestCase):
    def test_by_hand(self):
        self.assertEqual(of_cells(1, [(0, 1), (1, 0)]), (1, 2, (A,)))
        self.assertEqual(of_cells(2, [(0, 1), (1, 0), (2, 3), (3, 2)]), (2, 3, (A, (2, 0, 0, 2))))
        self.assertEqual(of_cells(2, [(0, 2), (0, 3), (1, 2), (1, 3)]), (2, 2, ((0, 1, 0, 0),)))

    def test_some_floors(self):
        for n, cells in some_floors():
            for handed in (cells, cells[::-1], tuple(cells), cells + cells):
                self.assertEqual(of_cells(n, handed), shape_by_hand(n, cells))

    def test_none_and_all(self):
        for n in range(13):
            self.assertEqual(of_cells(n, []), empty(n))
            self.assertEqual(of_cells(n, ()), empty(n))
        for n in range(5):
            self.assertEqual(of_cells(n, cells_from_bits(n, 2 ** 4 ** n - 1)), full(n))

    def test_size_0(self):
        self.assertEqual(of_cells(0, [(0, 0)]), (0, 1, ()))
        self.assertEqual(of_cells(0, [(0, 0), (0, 0)]), (0, 1, ()))

    def test_size_12(self):
        numbers = scattered(800, 4)
        cells = [(numbers[k] % 4096, numbers[k + 1] % 4096) for k in range(0, 800, 2)]
        cells += [(0, 0), (4095, 4095), (0, 4095), (4095, 0)]
        shape = of_cells(12, cells)
        self.assertTrue(is_shape(shape))
        self.assertEqual(cells_of(shape), sorted(set(cells)))

    def test_five_thousand_cells(self):
        cells = [(k // 71, k % 71) for k in range(5000)]
        shape = of_cells(12, cells)
        self.assertTrue(is_shape(shape))
        self.assertEqual(cells_of(shape), cells)

    def test_no_floor_ahead_of_no_cell(self):
        for n in NO_SIZES + odd_things():
            for cells in [[], [(0, 0)], [(-1, 0)], [None], None]:
                with self.assertRaises(NoFloor):
                    of_cells(n, cells)

    def test_no_cell(self):
        for n in (0, 1, 3, 12):
            wrong = odd_things() + [
                (-1, 0), (0, -1), (2 ** n, 0), (0, 2 ** n), (True, 0), (0, False), (None, 0), (0, "0"), [0, 0], (0,),
                (0, 0, 0), ((0, 0),), "00", (Prickly(), 0), (0, Prickly()), 0, ([0], [0]), {0: 0, 1: 0}]
            for cell in wrong:
                for cells in ([cell], (cell,), [(0, 0), cell], [cell, (0, 0)], [(0, 0), cell, (0, 0)]):
                    with self.assertRaises(NoCell):
                        of_cells(n, cells)

    def test_no_list(self):
        for thing in [None, 0, "x", {}, {(0, 0): 1}, Prickly(), object()]:
            with self.assertRaises(NoCell):
                of_cells(1, thing)

    def test_the_list_stays_and_has_no_bearing_later(self):
        cells = [(1, 0), (0, 1), (1, 0)]
        shape = of_cells(1, cells)
        self.assertEqual(cells, [(1, 0), (0, 1), (1, 0)])
        cells.append((0, 0))
        self.assertEqual(shape, (1, 2, (A,)))
        self.assertEqual(of_cells(1, [(1, 0), (0, 1)]), (1, 2, (A,)))
        wrong = [(0, 0), [1, 1]]
        with self.assertRaises(NoCell):
            of_cells(1, wrong)
        self.assertEqual(wrong, [(0, 0), [1, 1]])


class OfBoxes(unittest.TestCase):
    def test_every_box_of_small_floors(self):
        for n in (0, 1, 2):
            side = 2 ** n
            for row in range(side):
                for column in range(side):
                    for high in range(1, side - row + 1):
                        for wide in range(1, side - column + 1):
                            box = (row, column, high, wide)
                            self.assertEqual(of_boxes(n, [box]), shape_by_hand(n, cells_of_boxes([box])))

    def test_boxes_that_overlap_or_come_twice(self):
        numbers = scattered(600, 6)
        for k in range(0, 600, 20):
            boxes = []
            for at in range(k, k + 20, 4):
                row, column, high, wide = [number % 16 for number in numbers[at:at + 4]]
                boxes.append((row, column, min(high % 7 + 1, 16 - row), min(wide % 7 + 1, 16 - column)))
            wanted = shape_by_hand(4, cells_of_boxes(boxes))
            self.assertEqual(of_boxes(4, boxes), wanted)
            self.assertEqual(of_boxes(4, tuple(boxes[::-1])), wanted)
            self.assertEqual(of_boxes(4, boxes + boxes), wanted)

    def test_none_and_all(self):
        for n in range(13):
            side = 2 ** n
            self.assertEqual(of_boxes(n, []), empty(n))
            self.assertEqual(of_boxes(n, ()), empty(n))
            self.assertEqual(of_boxes(n, [(0, 0, side, side)]), full(n))
            self.assertEqual(of_boxes(n, ((0, 0, side, side), (0, 0, 1, 1))), full(n))
        self.assertEqual(of_boxes(12, [(0, 0, 1, 4096), (1, 0, 4095, 4096)]), full(12))
        self.assertEqual(of_boxes(12, [(0, 0, 4096, 2000), (0, 1999, 4096, 2097)]), full(12))

    def test_boxes_of_one_cell_are_cells(self):
        for n, cells in some_floors():
            self.assertEqual(of_boxes(n, [(row, column, 1, 1) for row, column in cells]), of_cells(n, cells))

    def test_great_boxes_on_the_greatest_floor(self):
        boxes = [(10 * k, 0, 3, 4096) for k in range(200)] + [(0, 10 * k + 1, 4096, 2) for k in range(200)]
        shape = of_boxes(12, boxes)
        self.assertTrue(is_shape(shape))
        cells = [(0, 0), (2, 4095), (3, 0), (4095, 1), (4095, 2), (4095, 3), (1990, 7), (1993, 7), (1993, 11)]
        for row, column in cells:
            wanted = row % 10 < 3 and row < 2000 or column % 10 in (1, 2) and column < 2000
            self.assertIs(is_full(shape, row, column), wanted)

    def test_many_scattered_boxes(self):
        numbers = scattered(1600, 8)
        boxes = []
        for k in range(0, 1600, 4):
            row, column, high, wide = [number % 4096 for number in numbers[k:k + 4]]
            boxes.append((row, column, min(high // 9 + 1, 4096 - row), min(wide // 9 + 1, 4096 - column)))
        shape = of_boxes(12, boxes)
        self.assertTrue(is_shape(shape))
        for k in range(0, 1000, 2):
            row, column = numbers[k] % 4096, numbers[k + 1] % 4096
            wanted = any([r <= row < r + high and c <= column < c + wide for r, c, high, wide in boxes])
            # Each asking looks at all rows of the shape, so the way down is gone here by hand.
            self.assertEqual(number_of_cell(shape, row, column), int(wanted))

    def test_no_floor_ahead_of_no_box(self):
        for n in NO_SIZES + odd_things():
            for boxes in [[], [(0, 0, 1, 1)], [(0, 0, 0, 0)], [None], None]:
                with self.assertRaises(NoFloor):
                    of_boxes(n, boxes)

    def test_no_box(self):
        for n in (0, 1, 3, 12):
            side = 2 ** n
            wrong = odd_things() + [
                (0, 0, 0, 1), (0, 0, 1, 0), (0, 0, -1, 1), (0, 0, 1, -1), (-1, 0, 1, 1), (0, -1, 1, 1), (-1, 0, 2, 1),
                (side, 0, 1, 1), (0, side, 1, 1), (0, 0, side + 1, 1), (0, 0, 1, side + 1), (side - 1, 0, 2, 1),
                (0, side - 1, 1, 2), (True, 0, 1, 1), (0, False, 1, 1), (0, 0, True, 1), (0, 0, 1, True), [0, 0, 1, 1],
                (0, 0, 1), (0, 0), (0, 0, 1, 1, 1), ("0", 0, 1, 1), (0, None, 1, 1), (0, 0, [1], 1), "0011",
                (0, 0, 1, Prickly()), ((0, 0), (1, 1)), ((0, 0, 1, 1),), 0]
            for box in wrong:
                for boxes in ([box], (box,), [(0, 0, 1, 1), box], [box, (0, 0, 1, 1)], [(0, 0, side, side), box]):
                    with self.assertRaises(NoBox):
                        of_boxes(n, boxes)

    def test_no_list(self):
        for thing in [None, 0, "x", {}, Prickly(), object()]:
            with self.assertRaises(NoBox):
                of_boxes(1, thing)

    def test_the_list_stays(self):
        boxes = [(0, 0, 1, 1), (1, 1, 1, 1), (0, 0, 1, 1)]
        shape = of_boxes(1, boxes)
        self.assertEqual(boxes, [(0, 0, 1, 1), (1, 1, 1, 1), (0, 0, 1, 1)])
        boxes.clear()
        self.assertEqual(shape, (1, 2, ((1, 0, 0, 1),)))


class IsFull(unittest.TestCase):
    def test_each_cell(self):
        for n, cells in some_floors():
            shape = shape_by_hand(n, cells)
            for row in range(2 ** n):
                for column in range(2 ** n):
                    self.assertIs(is_full(shape, row, column), (row, column) in cells)

    def test_great_floors(self):
        for n in (0, 12):
            for at in (0, 2 ** n - 1):
                self.assertIs(is_full(full(n), at, at), True)
                self.assertIs(is_full(empty(n), at, at), False)
        for row, column in [(0, 0), (0, 1), (4095, 4095), (4095, 4094), (1000, 2001)]:
            self.assertIs(is_full(checkered(12), row, column), (row + column) % 2 == 1)

    def test_refusals(self):
        for thing in no_shapes():
            for row in (0, -1, None):
                with self.assertRaises(NoShape):
                    is_full(thing, row, 0)
        for n in (0, 2, 12):
            for wrong in odd_things() + [-1, 2 ** n, True, None, "0", [0], (0,)]:
                with self.assertRaises(NoCell):
                    is_full(full(n), wrong, 0)
                with self.assertRaises(NoCell):
                    is_full(full(n), 0, wrong)


class CellsOf(unittest.TestCase):
    def test_in_order(self):
        for n, cells in some_floors():
            shape = shape_by_hand(n, cells)
            told = cells_of(shape)
            self.assertIsInstance(told, list)
            self.assertEqual(told, sorted(cells))
            self.assertEqual(of_cells(n, told), shape)
        self.assertEqual(cells_of(full(1)), [(0, 0), (0, 1), (1, 0), (1, 1)])

    def test_five_thousand_are_told_and_one_more_refused(self):
        shape = of_boxes(12, [(7, 100, 50, 100)])
        self.assertEqual(cells_of(shape), [(7 + k // 100, 100 + k % 100) for k in range(5000)])
        for boxes in ([(7, 100, 50, 100), (4095, 4095, 1, 1)], [(0, 0, 3, 1667)]):
            with self.assertRaises(TooMany):
                cells_of(of_boxes(12, boxes))
        self.assertEqual(len(cells_of(of_boxes(7, [(0, 0, 39, 128), (39, 0, 1, 8)]))), 5000)
        with self.assertRaises(TooMany):
            cells_of(of_boxes(7, [(0, 0, 39, 128), (39, 0, 1, 9)]))
        self.assertEqual(len(cells_of(full(6))), 4096)

    def test_sixteen_million_cells(self):
        for shape in [full(12), checkered(12), full(7)]:
            with self.assertRaises(TooMany):
                cells_of(shape)

    def test_no_shape(self):
        for thing in no_shapes():
            with self.assertRaises(NoShape):
                cells_of(thing)

    def test_a_told_list_is_the_askers_own(self):
        shape = of_cells(3, LIST)
        told = cells_of(shape)
        told.clear()
        told.append((9, 9))
        self.assertEqual(cells_of(shape), LIST)


class SquareAt(unittest.TestCase):
    def test_each_square(self):
        for n, cells in some_floors()[::3]:
            shape = shape_by_hand(n, cells)
            for address in all_addresses(n):
                row, column, side = box_of(n, address)
                inside = [(r - row, c - column) for r, c in cells
                          if row <= r < row + side and column <= c < column + side]
                self.assertEqual(square_at(shape, address), shape_by_hand(n - len(address), inside))

    def test_ends(self):
        for shape in [empty(0), full(12), checkered(12), long_shape()]:
            self.assertEqual(square_at(shape, ""), shape)
        self.assertEqual(square_at(checkered(12), "0" * 11 + "1"), (0, 1, ()))
        self.assertEqual(square_at(checkered(12), "0" * 12), (0, 0, ()))
        self.assertEqual(square_at(full(12), "0123"), full(8))
        self.assertEqual(square_at(of_boxes(12, [(0, 2048, 2048, 2048)]), "1230"), full(8))

    def test_refusals(self):
        for thing in no_shapes():
            for address in ("", "9", None):
                with self.assertRaises(NoShape):
                    square_at(thing, address)
        for address in odd_things() + ["0000", "4", "0 ", ["0"], 0, ("0",), "01x"]:
            with self.assertRaises(NoAddress):
                square_at(of_cells(3, LIST), address)


class WithSquare(unittest.TestCase):
    def test_each_square_of_small_floors(self):
        floors = [(n, cells) for n, cells in some_floors() if n in (2, 3)][::8]
        for n, cells in floors:
            shape = shape_by_hand(n, cells)
            for address in all_addresses(n):
                row, column, side = box_of(n, address)
                size = n - len(address)
                outside = [(r, c) for r, c in cells if not (row <= r < row + side and column <= c < column + side)]
                for bits in (0, 2 ** 4 ** size - 1, 0x9A3C57E1):
                    new = cells_from_bits(size, bits)
                    other = shape_by_hand(size, new)
                    wanted = shape_by_hand(n, outside + [(row + r, column + c) for r, c in new])
                    self.assertEqual(with_square(shape, address, other), wanted)
                    self.assertEqual(square_at(wanted, address), other)

    def test_put_in_and_taken_out_again(self):
        for shape in [checkered(12), full(12), empty(12), of_boxes(12, [(5, 5, 3000, 7)])]:
            for address in ["", "0", "3210", "1" * 12]:
                old = square_at(shape, address)
                self.assertEqual(with_square(shape, address, old), shape)
                for other in (empty(12 - len(address)), full(12 - len(address))):
                    changed = with_square(shape, address, other)
                    self.assertTrue(is_shape(changed))
                    self.assertEqual(square_at(changed, address), other)
                    self.assertEqual(with_square(changed, address, old), shape)

    def test_at_the_floor_it_is_the_other(self):
        self.assertEqual(with_square(checkered(12), "", of_cells(12, LIST)), of_cells(12, LIST))
        self.assertEqual(with_square(empty(0), "", full(0)), full(0))

    def test_within_a_plain_square(self):
        self.assertEqual(with_square(full(12), "3" * 12, empty(0)),
                         of_boxes(12, [(0, 0, 4095, 4096), (4095, 0, 1, 4095)]))
        self.assertEqual(with_square(empty(3), "21", full(1)), of_boxes(3, [(4, 2, 2, 2)]))
        self.assertEqual(cells_told(with_square(empty(3), "1", (2, 2, (A,)))),
                         cells_told(of_boxes(3, [(0, 6, 2, 2), (2, 4, 2, 2)])))

    def test_rows_that_are_shared(self):
        # Just one of many squares that stand by one row is another behind it.
        changed = with_square(checkered(5), "00", full(3))
        wanted = (cells_told(checkered(5)) | cells_of_boxes([(0, 0, 8, 8)]))
        self.assertEqual(changed, shape_by_hand(5, wanted))

    def test_long_shapes(self):
        shape = long_shape()
        self.assertEqual(with_square(shape, "0", square_at(shape, "0")), shape)
        changed = with_square(shape, "3", square_at(shape, "1"))
        self.assertTrue(is_shape(changed))
        self.assertEqual(square_at(changed, "3"), square_at(shape, "1"))
        self.assertEqual(with_square(changed, "3", empty(6)), shape)

    def test_refusals(self):
        shape, other = of_cells(3, LIST), full(2)
        for thing in no_shapes():
            for address in ("0", "9", None):
                for last in (other, full(5), None):
                    with self.assertRaises(NoShape):
                        with_square(thing, address, last)
                with self.assertRaises(NoShape):
                    with_square(shape, address, thing)
        for address in odd_things() + ["0000", "4", ["0"], 0, "01x"]:
            for last in (full(2), full(12)):
                with self.assertRaises(NoAddress):
                    with_square(shape, address, last)
        for address, size in [("", 2), ("", 4), ("0", 3), ("0", 1), ("012", 1), ("01", 0), ("012", 12)]:
            with self.assertRaises(OtherFloor):
                with_square(shape, address, full(size))
            with self.assertRaises(OtherFloor):
                with_square(shape, address, empty(size))


if __name__ == "__main__":
    unittest.main()
