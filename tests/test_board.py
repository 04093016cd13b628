"""Point 26: boards that change cell by cell."""

import unittest

from quarterfold.board import Board
from quarterfold.counts import many_cells, many_leaves
from quarterfold.errors import NoCell, NoShape, TooMany
from quarterfold.floors import address_of
from quarterfold.leaves import leaves_of
from quarterfold.made import is_full, of_boxes, of_cells, with_square
from quarterfold.parts import holes_of, parts_of
from quarterfold.tellings import empty, full, is_shape
from tests.aids import (cells_from_bits, checkered, layered_shape, no_shapes, not_whole, odd_things, refusal_of, rings,
                        scattered, scattered_cells, scattered_shape, shape_by_hand, some_floors)


def leaves_changed(before, behind):
    """The tuple (gone, come) from all leaves of two coarse shapes."""
    olds, news = leaves_of(before), leaves_of(behind)
    return (sorted(set(olds) - set(news)), sorted(set(news) - set(olds)))


class SmallFloors(unittest.TestCase):
    def check_deed(self, board, cells, row, column, is_put):
        """Do it on the board and in the set of cells; compare all that is told."""
        n = board.shape()[0]
        before = shape_by_hand(n, cells)
        told = board.put(row, column) if is_put else board.take(row, column)
        if is_put:
            cells.add((row, column))
        else:
            cells.discard((row, column))
        behind = shape_by_hand(n, cells)
        self.assertEqual(board.shape(), behind)
        self.assertEqual(told, leaves_changed(before, behind))
        self.assertEqual([type(told), type(told[0]), type(told[1])], [tuple, list, list])
        self.assertLessEqual(max(len(told[0]), len(told[1])), 3 * n + 1)
        self.assertEqual(board.many(), len(cells))
        self.assertEqual(before == behind, told == ([], []))
        return before != behind

    def test_every_cell_put_and_taken(self):
        for n, cells in some_floors():
            if n < 3:
                for row in range(2 ** n):
                    for column in range(2 ** n):
                        for is_put in (True, False):
                            board, mine = Board(shape_by_hand(n, cells)), set(cells)
                            changed = self.check_deed(board, mine, row, column, is_put)
                            self.assertIs(self.check_deed(board, mine, row, column, is_put), False)
                            self.assertIs(board.undo(), changed)
                            self.assertEqual(board.shape(), shape_by_hand(n, cells))

    def test_one_deed_behind_another(self):
        for n in (0, 1, 2, 3):
            for seed in range(4):
                start = shape_by_hand(n, cells_from_bits(n, scattered(1, seed)[0] % 2 ** 4 ** n if n < 3 else 0))
                board, cells = Board(start), {cell for cell in self.cells(start)}
                for k, (row, column) in enumerate(scattered_cells(n, 40, seed)):
                    self.check_deed(board, cells, row, column, scattered(1, 7 * seed + k)[0] % 3 > 0)
                    self.assertEqual((board.parts(), board.holes()), (len(parts_of(board.shape(), "sides")),
                                                                      len(holes_of(board.shape(), "sides"))))

    def cells(self, shape):
        side = 2 ** shape[0]
        return [(row, column) for row in range(side) for column in range(side) if is_full(shape, row, column)]

    def test_filled_and_emptied_cell_by_cell(self):
        for n in (1, 2, 3):
            board, cells = Board(empty(n)), set()
            every = [(row, column) for row in range(2 ** n) for column in range(2 ** n)]
            for row, column in every:
                self.check_deed(board, cells, row, column, True)
            self.assertEqual(board.shape(), full(n))
            for row, column in every[::-1]:
                self.check_deed(board, cells, row, column, False)
            self.assertEqual(board.shape(), empty(n))

    def test_by_hand(self):
        board = Board(empty(1))
        self.assertEqual(board.put(0, 1), ([("", False)], [("0", False), ("1", True), ("2", False), ("3", False)]))
        self.assertEqual(board.put(0, 0), ([("0", False)], [("0", True)]))
        self.assertEqual(board.put(1, 0), ([("2", False)], [("2", True)]))
        self.assertEqual(board.put(1, 0), ([], []))
        self.assertEqual(board.put(1, 1), ([("0", True), ("1", True), ("2", True), ("3", False)], [("", True)]))
        self.assertEqual(board.take(0, 0), ([("", True)], [("0", False), ("1", True), ("2", True), ("3", True)]))
        self.assertEqual((board.many(), board.parts(), board.holes()), (3, 1, 0))
        board = Board(full(0))
        self.assertEqual(board.take(0, 0), ([("", True)], [("", False)]))
        self.assertEqual(board.take(0, 0), ([], []))


class Undone(unittest.TestCase):
    def test_more_often_than_there_are_deeds(self):
        board = Board(of_cells(3, [(1, 1)]))
        self.assertIs(board.undo(), False)
        board.put(2, 2)
        board.put(2, 2)
        board.take(5, 5)
        board.take(1, 1)
        self.assertEqual(board.shape(), of_cells(3, [(2, 2)]))
        # The second put and the first take changed nothing: there is nothing of them to take back.
        self.assertIs(board.undo(), True)
        self.assertEqual(board.shape(), of_cells(3, [(1, 1), (2, 2)]))
        self.assertIs(board.undo(), True)
        self.assertEqual(board.shape(), of_cells(3, [(1, 1)]))
        for _ in range(3):
            self.assertIs(board.undo(), False)
            self.assertEqual((board.shape(), board.many()), (of_cells(3, [(1, 1)]), 1))

    def test_between_deeds(self):
        for n, seed in ((2, 1), (3, 2), (12, 3)):
            start = of_cells(n, scattered_cells(n, 3, seed))
            board, past = Board(start), [start]
            for k, (row, column) in enumerate(scattered_cells(n, 120, seed + 10)):
                pick = scattered(1, 31 * seed + k)[0] % 5
                if pick < 2:
                    self.assertIs(board.undo(), len(past) > 1)
                    past = past[:-1] if len(past) > 1 else past
                else:
                    new = full(0) if pick < 4 else empty(0)
                    behind = with_square(past[-1], address_of(n, row, column, 0), new)
                    told = board.put(row, column) if pick < 4 else board.take(row, column)
                    self.assertEqual(told, leaves_changed(past[-1], behind))
                    if behind != past[-1]:
                        past.append(behind)
                self.assertEqual((board.shape(), board.many()), (past[-1], many_cells(past[-1])))
            while len(past) > 1:
                past.pop()
                self.assertIs(board.undo(), True)
                self.assertEqual(board.shape(), past[-1])
            self.assertIs(board.undo(), False)


class GreatFloors(unittest.TestCase):
    def leaves_near(self, shape, cell):
        """The leaves on the way down to the cell and beside it, by hand."""
        n, number, rows = shape
        found, address = [], ""
        for k in range(n - 1, -1, -1):
            if number < 2:
                break
            at = 2 * (cell[0] >> k & 1) + (cell[1] >> k & 1)
            row = rows[number - 2]
            found += [(address + str(q), bool(row[q])) for q in range(4) if q != at and row[q] < 2]
            number, address = row[at], address + str(at)
        return found + [(address, bool(number))]

    def check_deed(self, board, cell, is_put):
        before = board.shape()
        behind = with_square(before, address_of(before[0], cell[0], cell[1], 0), full(0) if is_put else empty(0))
        told = board.put(cell[0], cell[1]) if is_put else board.take(cell[0], cell[1])
        olds, news = set(self.leaves_near(before, cell)), set(self.leaves_near(behind, cell))
        self.assertEqual(told, (sorted(olds - news), sorted(news - olds)))
        self.assertLessEqual(max(len(told[0]), len(told[1])), 3 * before[0] + 1)
        self.assertEqual(board.shape(), behind)
        self.assertTrue(is_shape(board.shape()))
        self.assertEqual(board.many(), many_cells(behind))

    def test_any_shape(self):
        shapes = [empty(12), full(12), checkered(12), layered_shape(12, 40, 1), scattered_shape(12, 667, 2),
                  scattered_shape(12, 666, 3), of_boxes(12, [(1, 1, 4094, 4094)])]
        for seed, shape in enumerate(shapes):
            board = Board(shape)
            cells = scattered_cells(12, 6, seed) + [(0, 0), (4095, 4095), (0, 1), (1, 0), (1, 1), (2048, 2047)]
            for cell in cells:
                self.check_deed(board, cell, seed % 2 == 0)
                self.check_deed(board, cell, True)
                self.check_deed(board, cell, False)
            while board.undo():
                pass
            self.assertEqual(board.shape(), shape)

    def test_as_many_leaves_as_told(self):
        board = Board(empty(12))
        gone, come = board.put(1000, 3000)
        self.assertEqual((len(gone), len(come)), (1, 37))
        gone, come = board.take(1000, 3000)
        self.assertEqual((len(gone), len(come)), (37, 1))
        board = Board(full(12))
        gone, come = board.take(4095, 0)
        self.assertEqual((gone, len(come)), ([("", True)], 37))
        self.assertEqual(board.put(4095, 0), (come, gone))

    def test_parts_and_holes(self):
        shapes = [scattered_shape(12, 300, 2), of_boxes(5, rings(5, 8)), of_boxes(12, [(1024, 0, 1024, 4096)])]
        for seed, shape in enumerate(shapes):
            board = Board(shape)
            for row, column in scattered_cells(shape[0], 6, seed):
                (board.take if is_full(board.shape(), row, column) else board.put)(row, column)
                self.assertEqual(board.parts(), len(parts_of(board.shape(), "sides")))
                self.assertEqual(board.holes(), len(holes_of(board.shape(), "sides")))

    def test_by_sides(self):
        board = Board(of_cells(3, [(2, 3), (3, 2), (3, 4), (4, 3)]))
        self.assertEqual((board.parts(), board.holes()), (4, 0))
        board.put(2, 2)
        board.put(4, 4)
        self.assertEqual((board.parts(), board.holes()), (2, 0))
        board.put(2, 4)
        self.assertEqual((board.parts(), board.holes()), (1, 0))
        board.put(4, 2)
        self.assertEqual((board.parts(), board.holes()), (1, 1))

    def test_too_many_and_coarse_again(self):
        for n in (6, 12):
            last = scattered_shape(n, 666, 1)
            self.assertEqual(many_leaves(last), 1999)
            board = Board(last)
            told = (board.parts(), board.holes())
            cell = self.cell_that_splits(last)
            (board.take if is_full(last, cell[0], cell[1]) else board.put)(cell[0], cell[1])
            self.assertGreaterEqual(many_leaves(board.shape()), 2002)
            for _ in range(2):
                self.assertIs(refusal_of(board.parts), TooMany)
                self.assertIs(refusal_of(board.holes), TooMany)
            self.assertEqual(board.many(), many_cells(board.shape()))
            self.assertIs(board.undo(), True)
            self.assertEqual((board.parts(), board.holes()), told)
        for deed in (Board(checkered(12)).parts, Board(checkered(12)).holes, Board(scattered_shape(12, 667, 1)).parts,
                     Board(scattered_shape(12, 667, 1)).holes):
            self.assertIs(refusal_of(deed), TooMany)

    def cell_that_splits(self, shape):
        """A cell of a leaf that has four cells or more."""
        n = shape[0]
        address = [address for address, is_leaf_full in leaves_of(shape) if len(address) < n][0]
        row = column = 0
        for at, figure in enumerate(address):
            row += (int(figure) // 2) << n - 1 - at
            column += (int(figure) % 2) << n - 1 - at
        return (row, column)


class Refusals(unittest.TestCase):
    def test_no_shape(self):
        for thing in no_shapes():
            self.assertIs(refusal_of(Board, thing), NoShape)

    def test_a_refused_deed_changes_nothing(self):
        for start in (empty(0), full(3), of_cells(3, [(1, 1)]), checkered(12)):
            board = Board(start)
            side = 2 ** start[0]
            changed = board.put(0, 0) != ([], []) or board.take(0, 0) != ([], [])
            before = board.shape()
            for thing in not_whole() + [True, False, -1, side, 10 ** 59, -(10 ** 59), "0", (0,), None]:
                for deed in (board.put, board.take):
                    self.assertIs(refusal_of(deed, thing, 0), NoCell)
                    self.assertIs(refusal_of(deed, 0, thing), NoCell)
                    self.assertIs(refusal_of(deed, thing, thing), NoCell)
            self.assertEqual(board.shape(), before)
            self.assertIs(changed, True)
            self.assertIs(board.undo(), True)
            self.assertEqual(board.shape(), start)
            self.assertIs(board.undo(), False)

    def test_odd_cells(self):
        board = Board(full(3))
        for thing in odd_things():
            self.assertIs(refusal_of(board.put, thing, thing), NoCell)
            self.assertIs(refusal_of(board.take, thing, 0), NoCell)


class TheAskersOwn(unittest.TestCase):
    def test_two_boards_of_one_shape(self):
        shape = of_boxes(3, [(1, 1, 3, 3)])
        kept = (shape[0], shape[1], tuple([tuple(row) for row in shape[2]]))
        one, other = Board(shape), Board(shape)
        one.put(7, 7)
        one.take(2, 2)
        self.assertEqual(other.shape(), shape)
        self.assertIs(other.undo(), False)
        other.put(0, 0)
        self.assertEqual(one.many(), 9)
        self.assertEqual(shape, kept)
        self.assertIs(one.undo(), True)
        self.assertEqual(other.many(), 10)

    def test_told_lists_have_no_bearing_later(self):
        board = Board(of_cells(3, [(1, 1)]))
        gone, come = board.put(1, 2)
        kept = (list(gone), list(come))
        gone.clear()
        come.append("9")
        nothing = board.put(1, 2)
        nothing[0].append("9")
        nothing[1].append("9")
        self.assertEqual(board.put(1, 2), ([], []))
        self.assertEqual(board.take(1, 2), (kept[1], kept[0]))
        self.assertIs(board.undo(), True)
        self.assertEqual(board.shape(), of_cells(3, [(1, 1), (1, 2)]))

    def test_the_same_asked_again(self):
        board = Board(of_boxes(4, rings(4, 3)))
        first = (board.shape(), board.many(), board.parts(), board.holes())
        self.assertEqual((board.shape(), board.many(), board.parts(), board.holes()), first)
        self.assertEqual(first[1:], (len(leaves_full(first[0])), 3, 3))
        self.assertEqual([type(number) for number in first[1:]], [int, int, int])


def leaves_full(shape):
    """The full cells of a shape all of whose full leaves are cells."""
    told = [address for address, is_leaf_full in leaves_of(shape) if is_leaf_full]
    assert all([len(address) == shape[0] for address in told])
    return told


if __name__ == "__main__":
    unittest.main()
