"""Point 15: shapes moved and shifted."""

import unittest

from quarterfold.deeds import cut
from quarterfold.errors import NoNumber, NoShape, TooMany
from quarterfold.leaves import leaves_of
from quarterfold.made import of_boxes, of_cells
from quarterfold.moves import moved, shifted
from quarterfold.tellings import empty, full, is_shape
from tests.aids import (cells_from_bits, checkered, layered_shape, no_shapes, not_whole, number_of_cell, refusal_of,
                        scattered, scattered_cells, scattered_shape, shape_by_hand, some_floors)

GREATEST = 10 ** 60 - 1
NO_NUMBERS = not_whole() + [True, False, "1", [1], (1,), None, b"1"]


def moved_by_hand(n, cells, down, right):
    side = 2 ** n
    there = [(row + down, column + right) for row, column in cells]
    return shape_by_hand(n, [(row, column) for row, column in there if 0 <= row < side and 0 <= column < side])


def shifted_by_hand(n, cells, down, right):
    side = 2 ** n
    return shape_by_hand(n, [((row + down) % side, (column + right) % side) for row, column in cells])


class CellByCell(unittest.TestCase):
    def check(self, n, cells, down, right):
        shape = shape_by_hand(n, cells)
        self.assertEqual(moved(shape, down, right), moved_by_hand(n, cells, down, right))
        self.assertEqual(shifted(shape, down, right), shifted_by_hand(n, cells, down, right))

    def test_every_move_of_small_floors(self):
        for n in (0, 1):
            for bits in range(2 ** 4 ** n):
                for down in range(-2 ** n - 2, 2 ** n + 3):
                    for right in range(-2 ** n - 2, 2 ** n + 3):
                        self.check(n, cells_from_bits(n, bits), down, right)
        for n, bits in ((2, 0x8C31), (2, 0x7FFF), (3, 0x80F1E3C7A5915D2B)):
            for down in range(-2 ** n - 1, 2 ** n + 2):
                for right in range(-2 ** n - 1, 2 ** n + 2):
                    self.check(n, cells_from_bits(n, bits), down, right)

    def test_some_floors(self):
        numbers = scattered(400, 11)
        for at, (n, cells) in enumerate(some_floors()):
            down, right = [numbers[2 * at + k] % (2 ** (n + 1) + 5) - 2 ** n - 2 for k in (0, 1)]
            self.check(n, cells, down, right)
            self.check(n, cells, 0, right)
            self.check(n, cells, down, 0)
            self.check(n, cells, 0, 0)

    def test_by_numbers_of_sixty_figures(self):
        for n, cells in some_floors()[::5]:
            shape = shape_by_hand(n, cells)
            for far in (GREATEST, -GREATEST, 10 ** 59, 2 ** n * 10 ** 50 + 1):
                for down, right in ((far, 0), (0, far), (far, far), (-far, far), (far, 1)):
                    self.assertEqual(moved(shape, down, right), empty(n))
                    self.assertEqual(shifted(shape, down, right), shifted_by_hand(n, cells, down, right))

    def test_by_hand(self):
        shape = of_cells(2, [(0, 0), (3, 1)])
        self.assertEqual(moved(shape, 1, 2), of_cells(2, [(1, 2)]))
        self.assertEqual(shifted(shape, 1, 2), of_cells(2, [(1, 2), (0, 3)]))
        self.assertEqual(moved(shape, -1, -1), of_cells(2, [(2, 0)]))
        self.assertEqual(shifted(shape, -1, -1), of_cells(2, [(3, 3), (2, 0)]))


class GreatFloors(unittest.TestCase):
    def test_plain_floors(self):
        for n in range(13):
            side = 2 ** n
            for down, right in [(0, 0), (1, 0), (0, -1), (side, 0), (0, side), (-side, -side), (side // 2, side // 2)]:
                self.assertEqual(moved(empty(n), down, right), empty(n))
                self.assertEqual(shifted(empty(n), down, right), empty(n))
                self.assertEqual(shifted(full(n), down, right), full(n))
                high, wide = side - abs(down), side - abs(right)
                boxes = [(max(down, 0), max(right, 0), high, wide)] if high > 0 and wide > 0 else []
                self.assertEqual(moved(full(n), down, right), of_boxes(n, boxes))

    def test_boxes(self):
        box = of_boxes(12, [(1024, 2048, 512, 1024)])
        for down, right in [(1, 1), (-1, 3), (777, -2047), (2560, 0), (-1024, -2048), (0, 1024)]:
            wanted = of_boxes(12, [(1024 + down, 2048 + right, 512, 1024)])
            self.assertEqual(moved(box, down, right), wanted)
            self.assertEqual(shifted(box, down, right), wanted)
        self.assertEqual(moved(box, 3000, 1500), of_boxes(12, [(4024, 3548, 72, 548)]))
        self.assertEqual(shifted(box, 3000, 1500),
                         of_boxes(12, [(4024, 3548, 72, 548), (4024, 0, 72, 476), (0, 3548, 440, 548),
                                       (0, 0, 440, 476)]))
        self.assertEqual(moved(box, 3072, 0), empty(12))
        self.assertEqual(moved(box, 3071, 0), of_boxes(12, [(4095, 2048, 1, 1024)]))

    def test_cells_here_and_there(self):
        for seed in range(6):
            shape = scattered_shape(12, 666, seed)
            (down, right), = scattered_cells(12, 1, seed)
            for down, right in [(down, right), (-down, right), (down, -right), (1, 0), (0, -1)]:
                gone, round_about = moved(shape, down, right), shifted(shape, down, right)
                self.assertTrue(is_shape(gone) and is_shape(round_about))
                for row, column in scattered_cells(12, 150, seed + 1):
                    before = (row - down, column - right)
                    there = number_of_cell(shape, before[0] % 4096, before[1] % 4096)
                    self.assertEqual(number_of_cell(round_about, row, column), there)
                    on_floor = 0 <= before[0] < 4096 and 0 <= before[1] < 4096
                    self.assertEqual(number_of_cell(gone, row, column), there if on_floor else 0)

    def test_what_has_left_is_gone_for_good(self):
        shape = scattered_shape(12, 200, 3)
        # By great steps the leaves stay few, so that the way back can be asked for.
        for down, right in [(1024, 0), (-1024, 512), (0, 2048), (2048, -512)]:
            kept = of_boxes(12, [(max(-down, 0), max(-right, 0), 4096 - abs(down), 4096 - abs(right))])
            there = moved(shape, down, right)
            self.assertEqual(moved(there, -down, -right), cut(shape, kept))
            self.assertEqual(shifted(shifted(shape, down, right), -down, -right), shape)

    def test_by_the_side_and_beyond(self):
        shape = scattered_shape(12, 666, 5)
        for down, right in [(4096, 0), (0, -4096), (8192, 4096), (5000, 1), (-4096, 4095), (GREATEST, -GREATEST)]:
            self.assertEqual(moved(shape, down, right), empty(12))
            self.assertEqual(shifted(shape, down, right), shifted(shape, down % 4096, right % 4096))
        self.assertEqual(shifted(shape, 4096, -4096), shape)
        self.assertEqual(moved(shape, 0, 0), shape)


class Refusals(unittest.TestCase):
    def test_the_edge_of_coarse(self):
        for n in (6, 12):
            last, beyond = scattered_shape(n, 666, 1), scattered_shape(n, 667, 1)
            self.assertEqual(len(leaves_of(last)), 1999)
            for deed in (moved, shifted):
                for down, right in ((0, 0), (1, -1), (GREATEST, 0)):
                    self.assertIs(is_shape(deed(last, down, right)), True)
                    self.assertIs(refusal_of(deed, beyond, down, right), TooMany)
        for shape in (checkered(12), checkered(6), layered_shape(12, 20, 1)):
            for deed in (moved, shifted):
                self.assertIs(refusal_of(deed, shape, 0, 0), TooMany)

    def test_no_number_ahead_of_too_many(self):
        for shape in (empty(0), of_cells(2, [(1, 1)]), checkered(12)):
            for thing in NO_NUMBERS:
                for deed in (moved, shifted):
                    self.assertIs(refusal_of(deed, shape, thing, 1), NoNumber)
                    self.assertIs(refusal_of(deed, shape, 1, thing), NoNumber)
                    self.assertIs(refusal_of(deed, shape, thing, thing), NoNumber)

    def test_no_shape_ahead_of_all(self):
        for thing in no_shapes():
            for deed in (moved, shifted):
                for down, right in ((0, 0), (True, 0), (0, None), ("1", [])):
                    self.assertIs(refusal_of(deed, thing, down, right), NoShape)


class TheSameAgain(unittest.TestCase):
    def test_asked_again_it_is_alike(self):
        shape = scattered_shape(12, 300, 2)
        told = [deed(shape, down, right) for deed in (moved, shifted) for down, right in ((1, 2), (-700, 99))]
        refusal_of(moved, shape, True, 0)
        self.assertEqual([deed(shape, down, right) for deed in (moved, shifted)
                          for down, right in ((1, 2), (-700, 99))], told)


if __name__ == "__main__":
    unittest.main()
