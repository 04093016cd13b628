"""Point 4: what is told in one way bears out what is told in another, for shapes of many kinds."""

import unittest

from quarterfold.balance import balance
from quarterfold.board import Board
from quarterfold.chains import chain
from quarterfold.counts import bounds, many_cells, many_leaves
from quarterfold.deeds import cut, joined, left_out
from quarterfold.floors import box_of
from quarterfold.least import form
from quarterfold.leaves import leaves_of
from quarterfold.loops import of_loops
from quarterfold.made import of_boxes, of_cells, with_square
from quarterfold.moves import moved
from quarterfold.parts import filled, holes_of, nest, parts_of
from quarterfold.rims import held, rim_round, rims_of
from quarterfold.scales import larger
from quarterfold.tellings import empty, full
from quarterfold.turns import turn_back, turned
from tests.aids import (cells_from_bits, comb, number_of_cell, rings, scattered, scattered_cells, scattered_shape,
                        shape_by_hand, slope, snake, some_floors, stair)

WAYS = ("sides", "corners")
OTHER = {"sides": "corners", "corners": "sides"}


def many_kinds():
    """Shapes of many kinds and sizes, none of them of many leaves."""
    shapes = [shape_by_hand(n, cells) for n, cells in some_floors()[::3]]
    shapes += [of_cells(4, cells_from_bits(4, bits)) for bits in some_bits()]
    shapes += [scattered_shape(n, many, seed) for seed, (n, many) in enumerate(((5, 60), (8, 100), (12, 90), (12, 9)))]
    shapes += [of_boxes(4, rings(4, 4)), of_cells(5, snake(20, 19)), of_cells(5, comb(17, 9))]
    shapes += [of_cells(12, stair(40, 9, 9)), of_cells(12, slope(50, 1000, 3))]
    shapes += [of_boxes(12, [(0, 0, 4096, 64), (64, 64, 128, 128), (256, 0, 64, 4096)])]
    return shapes + [empty(0), full(0), empty(12), full(12)]


def some_bits():
    """Bits of floors of size 4, a half and three quarters of them 1."""
    found = []
    for seed in range(4):
        numbers = scattered(16, 50 + seed)
        one, other = [sum([number << 32 * at for at, number in enumerate(numbers[k:k + 8])]) for k in (0, 8)]
        found += [one, one | other]
    return found


def room_for_moves(shape):
    """Some moves with no full cell gone: into the floor's corners."""
    box = bounds(shape)
    if box is None:
        return [(0, 0)]
    last = 2 ** shape[0] - 1
    return [(-box[0], -box[1]), (last - box[2], last - box[3]), (-box[0], last - box[3]), (0, 0)]


class Counted(unittest.TestCase):
    def test_parts_holes_rims_and_cells(self):
        for shape in many_kinds():
            for by in WAYS:
                parts, holes, rims = parts_of(shape, by), holes_of(shape, by), rims_of(shape, by)
                outer = [rim for rim in rims if held(rim) > 0]
                self.assertEqual(balance(shape, by), len(parts) - len(holes))
                self.assertEqual((len(outer), len(rims) - len(outer)), (len(parts), len(holes)))
                self.assertEqual(sum([held(rim) for rim in rims]), many_cells(shape))
                self.assertEqual(sum([many_cells(part) for part in parts]), many_cells(shape))
                self.assertEqual(of_loops(shape[0], rims), shape)
                told = filled(shape, by)
                self.assertEqual(many_cells(told), many_cells(shape) + sum([many_cells(hole) for hole in holes]))
                self.assertEqual(balance(told, by), nest(shape, by)[0].count(None))

    def test_a_part_alone(self):
        for shape in many_kinds():
            for by in WAYS:
                for part in parts_of(shape, by)[:4]:
                    self.assertEqual(parts_of(part, by), [part])
                    row, column = first_of(part)
                    rim = rim_round(shape, by, row, column)
                    self.assertEqual(rim_round(part, by, row, column), rim)
                    self.assertEqual(of_loops(shape[0], [rim]), filled(part, by))

    def test_boards_tell_the_same(self):
        for shape in many_kinds():
            board = Board(shape)
            self.assertEqual((board.many(), board.parts(), board.holes(), board.shape()),
                             (many_cells(shape), len(parts_of(shape, "sides")), len(holes_of(shape, "sides")), shape))
            self.assertEqual(board.parts() - board.holes(), balance(shape, "sides"))


def first_of(shape):
    return min([box_of(shape[0], address)[:2] for address, is_leaf_full in leaves_of(shape) if is_leaf_full])


class Led(unittest.TestCase):
    def test_within_parts_and_not_between_them(self):
        for shape in many_kinds()[::2]:
            for by in WAYS:
                parts = parts_of(shape, by)[:4]
                for part in parts:
                    cells = [box_of(part[0], address)[:2] for address, is_leaf_full in leaves_of(part) if is_leaf_full]
                    for cell in cells[::len(cells) // 4 + 1]:
                        told = chain(shape, by, cells[0], cell)
                        self.assertTrue(all([self.lies_in(part, address) for address in told]))
                for one, other in zip(parts, parts[1:]):
                    self.assertIsNone(chain(shape, by, first_of(one), first_of(other)))

    def lies_in(self, part, address):
        row, column, side = box_of(part[0], address)
        return {number_of_cell(part, row + down, column + right)
                for down in (0, side - 1) for right in (0, side - 1)} == {1}


class TurnedAndMoved(unittest.TestCase):
    def check(self, shape, other, change):
        """What is told of the other one is what is told of the shape, changed likewise."""
        for by in WAYS:
            self.assertEqual(sorted(parts_of(other, by)), sorted([change(part) for part in parts_of(shape, by)]))
            self.assertEqual(sorted(holes_of(other, by)), sorted([change(hole) for hole in holes_of(shape, by)]))
            self.assertEqual(filled(other, by), change(filled(shape, by)))
            self.assertEqual(balance(other, by), balance(shape, by))

    def test_turned(self):
        for at, shape in enumerate(many_kinds()):
            for turn in (1 + at % 7, 7 - at % 7):
                other = turned(shape, turn)
                self.check(shape, other, lambda one: turned(one, turn))
                self.assertEqual(turned(other, turn_back(turn)), shape)
                self.assertLessEqual(form(shape, other), (turn, 0, 0))

    def test_moved(self):
        for shape in many_kinds():
            for down, right in room_for_moves(shape):
                other = moved(shape, down, right)
                if many_leaves(other) <= 2000:
                    self.check(shape, other, lambda one: moved(one, down, right))
                    self.assertEqual(form(shape, other), (0, down, right))

    def test_larger(self):
        for shape in many_kinds():
            if shape[0] < 12:
                self.check(shape, larger(shape), larger)


class LeftOut(unittest.TestCase):
    def test_parts_and_holes_exchanged(self):
        shapes = [shape for shape in many_kinds() if shape[0] <= 10] + [scattered_shape(10, 40, 1)]
        for shape in shapes:
            n = shape[0] + 2
            # Amid the floor: of sixteen squares the one at "03" has others on every side.
            amid = with_square(empty(n), "03", shape)
            out = left_out(amid)
            for by in WAYS:
                self.assertEqual(holes_of(out, OTHER[by]), parts_of(amid, by))
                parts = parts_of(out, OTHER[by])
                outside = [part for part in parts if number_of_cell(part, 0, 0) == 1]
                self.assertEqual(len(outside), 1)
                self.assertEqual([part for part in parts if part not in outside], holes_of(amid, by))
                self.assertEqual(balance(out, OTHER[by]), 1 - balance(amid, by))
                self.assertEqual(cut(outside[0], filled(amid, by)), empty(n))
                self.assertEqual(joined(outside[0], filled(amid, by)), full(n))


class AskedAgain(unittest.TestCase):
    def test_alike(self):
        for shape in many_kinds()[::3]:
            kept = (shape[0], shape[1], tuple([tuple(row) for row in shape[2]]))
            for by in WAYS:
                for deed in (parts_of, holes_of, nest, filled, balance, rims_of):
                    self.assertEqual(deed(shape, by), deed(shape, by))
            self.assertEqual(shape, kept)


class CellByCell(unittest.TestCase):
    def test_a_board_walked_over(self):
        board = Board(of_boxes(12, [(1024, 1024, 2048, 2048)]))
        for row, column in scattered_cells(12, 12, 9):
            before = set(leaves_of(board.shape()))
            is_cell_full = number_of_cell(board.shape(), row, column) == 1
            gone, come = board.take(row, column) if is_cell_full else board.put(row, column)
            self.assertEqual(set(leaves_of(board.shape())), before - set(gone) | set(come))
            self.assertTrue(set(gone) <= before and not set(come) & before)


if __name__ == "__main__":
    unittest.main()
