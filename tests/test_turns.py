"""Point 14: shapes turned, turns one behind the other, and turns that lead back."""

import unittest

from quarterfold.errors import NoShape, NoTurn
from quarterfold.made import of_cells
from quarterfold.tellings import empty, full, is_shape
from quarterfold.turns import turn_back, turn_behind, turned
from tests.aids import (checkered, layered_shape, long_shape, no_shapes, not_whole, number_of_cell, refusal_of,
                        scattered_cells, scattered_shape, shape_by_hand, some_floors)

NO_TURNS = not_whole() + [True, False, -1, 8, 9, -8, 10 ** 59, -(10 ** 59), "0", "1", [0], (0,), None]
L_SHAPE = [(0, 0), (0, 1), (1, 0), (2, 0), (3, 3)]


def turned_cell(n, turn, cell):
    """Where the cell comes to: straight from the words of point 14."""
    row, column = cell
    last = 2 ** n - 1
    if turn >= 4:
        row, column = row, last - column
    for _ in range(turn % 4):
        row, column = column, last - row
    return (row, column)


def great_shapes():
    return [checkered(12), layered_shape(12, 20, 1), long_shape(), scattered_shape(12, 666, 2),
            scattered_shape(11, 300, 3)]


class Turned(unittest.TestCase):
    def test_cell_by_cell(self):
        for n, cells in some_floors():
            shape = shape_by_hand(n, cells)
            for turn in range(8):
                told = turned(shape, turn)
                self.assertEqual(told, shape_by_hand(n, [turned_cell(n, turn, cell) for cell in cells]))
                self.assertEqual(len(told[2]), len(shape[2]))

    def test_by_hand(self):
        shape = of_cells(1, [(0, 0), (0, 1), (1, 0)])
        empty_quarters = [turned(shape, turn)[2][0].index(0) for turn in range(8)]
        # The empty cell is below on the right; by quarter turns to the right it goes round that way.
        self.assertEqual(empty_quarters, [3, 2, 0, 1, 2, 0, 1, 3])
        self.assertEqual(turned(of_cells(3, [(1, 2)]), 1), of_cells(3, [(2, 6)]))
        self.assertEqual(turned(of_cells(3, [(1, 2)]), 4), of_cells(3, [(1, 5)]))
        self.assertEqual(turned(of_cells(3, [(1, 2)]), 5), of_cells(3, [(5, 6)]))

    def test_plain_floors(self):
        for n in range(13):
            for turn in range(8):
                self.assertEqual(turned(empty(n), turn), empty(n))
                self.assertEqual(turned(full(n), turn), full(n))

    def test_great_shapes(self):
        for shape in great_shapes():
            for turn in range(8):
                told = turned(shape, turn)
                self.assertIs(is_shape(told), True)
                self.assertEqual((told[0], len(told[2])), (shape[0], len(shape[2])))
                for cell in scattered_cells(shape[0], 60, turn):
                    there = turned_cell(shape[0], turn, cell)
                    self.assertEqual(number_of_cell(told, there[0], there[1]), number_of_cell(shape, cell[0], cell[1]))

    def test_turned_0_is_as_before(self):
        for shape in great_shapes():
            self.assertEqual(turned(shape, 0), shape)

    def test_each_two_turns(self):
        for shape in great_shapes() + [of_cells(2, L_SHAPE)]:
            for turn in range(8):
                once = turned(shape, turn)
                for other in range(8):
                    self.assertEqual(turned(once, other), turned(shape, turn_behind(turn, other)))
                self.assertEqual(turned(once, turn_back(turn)), shape)

    def test_the_same_again(self):
        shape = layered_shape(12, 20, 1)
        told = [turned(shape, turn) for turn in range(8)]
        refusal_of(turned, shape, 8)
        self.assertEqual([turned(shape, turn) for turn in range(8)], told)


class Turns(unittest.TestCase):
    def test_one_behind_another(self):
        for turn in range(8):
            for other in range(8):
                told = turn_behind(turn, other)
                self.assertIsInstance(told, int)
                self.assertIn(told, range(8))
                for cell in L_SHAPE:
                    self.assertEqual(turned_cell(2, told, cell), turned_cell(2, other, turned_cell(2, turn, cell)))

    def test_by_hand(self):
        self.assertEqual(turn_behind(1, 2), 3)
        self.assertEqual(turn_behind(3, 3), 2)
        self.assertEqual(turn_behind(4, 1), 5)
        self.assertEqual(turn_behind(1, 4), 7)
        self.assertEqual(turn_behind(5, 4), 3)
        self.assertEqual([turn_back(turn) for turn in range(8)], [0, 3, 2, 1, 4, 5, 6, 7])

    def test_leads_back(self):
        for turn in range(8):
            back = turn_back(turn)
            self.assertIsInstance(back, int)
            self.assertEqual(turn_behind(turn, back), 0)
            self.assertEqual(turn_behind(back, turn), 0)
            self.assertEqual(turn_back(back), turn)
            self.assertEqual(turn_behind(turn, 0), turn)
            self.assertEqual(turn_behind(0, turn), turn)

    def test_in_threes(self):
        for first in range(8):
            for second in range(8):
                for third in range(8):
                    self.assertEqual(turn_behind(turn_behind(first, second), third),
                                     turn_behind(first, turn_behind(second, third)))


class Refusals(unittest.TestCase):
    def test_no_turn(self):
        for thing in NO_TURNS:
            for shape in (empty(0), of_cells(2, L_SHAPE), checkered(12)):
                self.assertIs(refusal_of(turned, shape, thing), NoTurn)
            self.assertIs(refusal_of(turn_back, thing), NoTurn)
            for turn in (0, 5, 7):
                self.assertIs(refusal_of(turn_behind, thing, turn), NoTurn)
                self.assertIs(refusal_of(turn_behind, turn, thing), NoTurn)
            self.assertIs(refusal_of(turn_behind, thing, thing), NoTurn)

    def test_no_shape_ahead_of_no_turn(self):
        for thing in no_shapes():
            for turn in (0, 7, 8, True, None, "1"):
                self.assertIs(refusal_of(turned, thing, turn), NoShape)


if __name__ == "__main__":
    unittest.main()
