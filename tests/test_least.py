"""Point 25: least tellings, fewest leaves, and shapes of one form."""

import unittest

from quarterfold.counts import bounds, many_leaves, many_unplain
from quarterfold.errors import NoShape, OtherFloor, TooMany
from quarterfold.floors import box_of
from quarterfold.least import fewest, form, least
from quarterfold.leaves import leaves_of
from quarterfold.made import of_boxes, of_cells, with_square
from quarterfold.moves import moved
from quarterfold.tellings import empty, full, is_shape
from quarterfold.turns import turned
from tests.aids import (cells_from_bits, cells_told, checkered, layered_shape, no_shapes, refusal_of, scattered,
                        scattered_cells, scattered_shape, shape_by_hand, some_floors)


def moves_by_hand(n, cells):
    """All moves with no full cell gone."""
    side = 2 ** n
    return [(down, right) for down in range(1 - side, side) for right in range(1 - side, side)
            if all([0 <= row + down < side and 0 <= column + right < side for row, column in cells])]


def moved_cells(cells, down, right):
    return {(row + down, column + right) for row, column in cells}


def turned_cells(n, cells, turn):
    side = 2 ** n
    if turn >= 4:
        cells = [(row, side - 1 - column) for row, column in cells]
    for _ in range(turn % 4):
        cells = [(column, side - 1 - row) for row, column in cells]
    return set(cells)


def least_by_hand(n, cells):
    if not cells:
        return (0, 0, shape_by_hand(n, cells))
    best = None
    for down, right in moves_by_hand(n, cells):
        shape = shape_by_hand(n, moved_cells(cells, down, right))
        if best is None or (len(shape[2]), shape) < (len(best[2][2]), best[2]):
            best = (down, right, shape)
    return best


def leaves_by_hand(n, cells):
    """How many leaves there are, from the squares that have both full and empty cells."""
    many = 1
    for k in range(1, n + 1):
        counts = {}
        for row, column in cells:
            square = (row >> k, column >> k)
            counts[square] = counts.get(square, 0) + 1
        many += 3 * len([square for square in counts if counts[square] < 4 ** k])
    return many


def fewest_by_hand(n, cells):
    if not cells:
        return (1, 0, 0)
    return min([(leaves_by_hand(n, moved_cells(cells, down, right)), down, right)
                for down, right in moves_by_hand(n, cells)])


def form_by_hand(n, cells, others):
    if not cells and not others:
        return (0, 0, 0)
    for turn in range(8):
        mine = turned_cells(n, cells, turn)
        if mine and len(mine) == len(others):
            for down, right in moves_by_hand(n, mine):
                if moved_cells(mine, down, right) == set(others):
                    return (turn, down, right)
    return None


def in_a_corner(n, bits, at):
    """Cells in a square of four by four cells somewhere on a floor of size n, so that there are many moves."""
    return [(row + at, column + at // 2) for row, column in cells_from_bits(2, bits % 2 ** 16)]


class Least(unittest.TestCase):
    def check(self, n, cells):
        shape = shape_by_hand(n, cells)
        told = least(shape)
        self.assertEqual(told, least_by_hand(n, cells))
        self.assertIs(type(told), tuple)
        self.assertTrue(is_shape(told[2]))

    def test_small_floors(self):
        for n, cells in some_floors():
            self.check(n, cells)

    def test_many_moves(self):
        for at, bits in enumerate(scattered(12, 5)):
            self.check(3, in_a_corner(3, bits, at % 5))
        for at, bits in enumerate(scattered(5, 6)):
            self.check(4, in_a_corner(4, bits, 3 * at % 13))
        for cells in ([(15, 15)], [(7, 3), (8, 4)], [(0, 0), (3, 9)]):
            self.check(4, cells)
        for box in ((1, 1, 4, 4), (3, 5, 8, 8), (0, 0, 16, 3), (5, 5, 7, 6)):
            self.check(4, sorted(cells_told(of_boxes(4, [box]))))

    def test_by_hand(self):
        # Of 256 moves of a cell all have four rows: the least telling is that with the cell at the end of all rows.
        shape = of_cells(4, [(6, 3)])
        self.assertEqual(least(shape), (9, 12, of_cells(4, [(15, 15)])))
        shape = of_boxes(4, [(1, 2, 8, 8)])
        self.assertEqual(least(shape), (7, 6, (4, 2, ((0, 0, 0, 1),))))
        for n in range(5):
            self.assertEqual(least(empty(n)), (0, 0, empty(n)))
            self.assertEqual(least(full(n)), (0, 0, full(n)))

    def test_the_floors_that_are_too_great(self):
        for n in range(13):
            for shape in (empty(n), full(n)) + ((checkered(n),) if n else ()):
                self.assertIs(refusal_of(least, shape), TooMany if n > 4 else None)
        self.assertEqual(least(checkered(4)), (0, 0, checkered(4)))


class Fewest(unittest.TestCase):
    def check(self, n, cells):
        told = fewest(of_cells(n, cells))
        self.assertEqual(told, fewest_by_hand(n, cells))
        self.assertIs(type(told), tuple)

    def check_boxes(self, n, boxes):
        """The same, each move made with the boxes."""
        side = 2 ** n
        ends = [(row, column, row + high, column + wide) for row, column, high, wide in boxes]
        told = []
        for down in range(-min([end[0] for end in ends]), side + 1 - max([end[2] for end in ends])):
            for right in range(-min([end[1] for end in ends]), side + 1 - max([end[3] for end in ends])):
                shape = of_boxes(n, [(row + down, column + right, high, wide) for row, column, high, wide in boxes])
                told.append((many_leaves(shape), down, right))
        self.assertGreater(len(told), 200)
        self.assertEqual(fewest(of_boxes(n, boxes)), min(told))

    def test_small_floors(self):
        for n, cells in some_floors():
            self.check(n, cells)
        for at, bits in enumerate(scattered(20, 7)):
            self.check(3, in_a_corner(3, bits, at % 5))
        for at, bits in enumerate(scattered(8, 8)):
            self.check(4, in_a_corner(4, bits, 3 * at % 13))

    def test_cells_on_greater_floors(self):
        self.check(5, [(3, 3), (9, 20), (10, 20)])
        self.check(5, in_a_corner(5, 0b0110111111110110, 13))
        self.check(6, [(3, 3), (60, 50), (10, 20), (10, 21), (11, 20), (11, 21)])
        self.check(6, [(40, 17)])
        self.check(7, [(3, 3), (120, 100), (50, 51), (51, 51)])
        self.check(7, scattered_cells(7, 30, 4))

    def test_boxes_on_greater_floors(self):
        for n, boxes in ((5, [(3, 5, 16, 16)]), (5, [(1, 1, 9, 20)]), (6, [(5, 7, 40, 33)]), (7, [(9, 11, 100, 90)]),
                         (6, [(2, 2, 30, 30), (40, 5, 8, 9)]), (7, [(0, 0, 64, 64), (100, 0, 3, 100)])):
            self.check_boxes(n, boxes)
        # A square box fits onto a square: one quarter of the floor is full.
        self.assertEqual(fewest(of_boxes(5, [(3, 5, 16, 16)])), (4, -3, -5))
        self.assertEqual(fewest(of_boxes(7, [(3, 5, 64, 64)])), (4, -3, -5))
        self.assertEqual(fewest(of_boxes(7, [(3, 5, 1, 1)])), (22, -3, -5))
        self.assertEqual(fewest(of_boxes(7, [(63, 63, 2, 2)])), (19, -63, -63))

    def test_the_same_as_moves_made(self):
        for n, seed in ((5, 1), (6, 2), (7, 3)):
            shape = with_square(empty(n), "3", scattered_shape(n - 1, 40, seed))
            leaves, down, right = fewest(shape)
            self.assertEqual(many_leaves(moved(shape, down, right)), leaves)
            first_row, first_column, last_row, last_column = bounds(shape)
            last = 2 ** n - 1
            self.assertTrue(0 <= first_row + down and last_row + down <= last)
            self.assertTrue(0 <= first_column + right and last_column + right <= last)
            for row, column in scattered_cells(n - 1, 200, seed):
                other = (row - first_row, column - first_column)
                if last_row + other[0] <= last and last_column + other[1] <= last:
                    self.assertGreaterEqual((many_leaves(moved(shape, other[0], other[1])), other[0], other[1]),
                                            (leaves, down, right))

    def test_not_coarse_ones(self):
        for shape in (layered_shape(7, 30, 1), checkered(7), scattered_shape(7, 700, 2)):
            self.assertGreater(many_leaves(shape), 2000)
            first_row, first_column, last_row, last_column = bounds(shape)
            self.assertEqual((first_row, last_row, first_column, last_column), (0, 127, 0, 127))
            self.assertEqual(fewest(shape), (many_leaves(shape), 0, 0))
        shape = with_square(empty(7), "0", checkered(6))
        told = fewest(shape)
        self.assertEqual(told, (4096 + 3, 0, 0))

    def test_moves_alike_but_for_multiples(self):
        shape = of_boxes(6, [(0, 0, 5, 9), (7, 3, 2, 11)])
        for k in (1, 2, 3, 4):
            for down, right in ((0, 0), (1, 2), (3, 5)):
                told = {many_unplain(moved(shape, down + many * 2 ** k, right + more * 2 ** k), k)
                        for many in range(2) for more in range(2)}
                self.assertEqual(len(told), 1)

    def test_plain_floors_and_too_great_ones(self):
        for n in range(8):
            self.assertEqual(fewest(empty(n)), (1, 0, 0))
            self.assertEqual(fewest(full(n)), (1, 0, 0))
        for n in range(8, 13):
            for shape in (empty(n), full(n), checkered(n)):
                self.assertIs(refusal_of(fewest, shape), TooMany)


class Form(unittest.TestCase):
    def check(self, n, cells, others):
        told = form(shape_by_hand(n, cells), shape_by_hand(n, others))
        self.assertEqual(told, form_by_hand(n, cells, others))
        return told

    def test_small_floors(self):
        for n, cells in some_floors():
            self.assertEqual(form(shape_by_hand(n, cells), shape_by_hand(n, cells)), (0, 0, 0))
            for turn in range(8):
                self.assertIsNotNone(self.check(n, cells, turned_cells(n, cells, turn)))
        floors = [cells for n, cells in some_floors() if n == 1]
        for cells in floors:
            for others in floors:
                self.check(1, cells, others)

    def test_turned_and_moved(self):
        for at, bits in enumerate(scattered(8, 9)):
            cells = in_a_corner(3, bits | 1, at % 5)
            for turn in range(8):
                mine = turned_cells(3, cells, turn)
                moves = moves_by_hand(3, mine)
                down, right = moves[(5 * at + turn) % len(moves)]
                told = self.check(3, cells, moved_cells(mine, down, right))
                self.assertLessEqual(told, (turn, down, right))

    def test_by_hand(self):
        hook = [(0, 0), (1, 0), (2, 0), (2, 1)]
        self.assertEqual(self.check(3, hook, [(5, 5), (6, 5), (7, 5), (7, 6)]), (0, 5, 5))
        self.assertEqual(self.check(3, hook, [(5, 6), (6, 6), (7, 6), (7, 5)]), (4, 5, -1))
        self.assertIsNone(self.check(3, hook, [(0, 0), (1, 0), (2, 0), (3, 0)]))
        self.assertIsNone(self.check(3, hook, hook[:3]))
        self.assertIsNone(self.check(3, hook, []))
        self.assertIsNone(self.check(3, [], hook))
        # As high and as wide and with as many cells, but of another form.
        self.assertIsNone(self.check(3, [(0, 0), (2, 2), (0, 1), (1, 2)], [(0, 0), (2, 2), (0, 2), (1, 1)]))

    def test_no_full_cell_may_be_gone(self):
        # What is left of the one on the floor would be the other.
        one = of_boxes(3, [(0, 0, 3, 3)])
        self.assertIsNone(form(one, of_boxes(3, [(0, 0, 2, 2)])))
        self.assertIsNone(form(one, of_boxes(3, [(0, 0, 2, 3)])))
        self.assertIsNone(form(one, of_boxes(3, [(6, 5, 2, 3)])))

    def test_of_nothing(self):
        for n in range(13):
            self.assertEqual(form(empty(n), empty(n)), (0, 0, 0))
            self.assertEqual(form(full(n), full(n)), (0, 0, 0))
            self.assertIsNone(form(empty(n), full(n)))
            self.assertIsNone(form(full(n), empty(n)))

    def test_great_floors(self):
        boxes = [(128, 64, 512, 192), (640, 64, 64, 64), (256, 256, 32, 128)]
        shape = of_boxes(12, boxes)
        for turn in range(8):
            for down, right in ((0, 0), (64, 0), (0, 128)):
                mine = turned(shape, turn)
                first_row, first_column, last_row, last_column = bounds(mine)
                other = moved(mine, down - first_row, right - first_column)
                self.assertEqual(form(shape, other), (turn, down - first_row, right - first_column))
                back = form(other, shape)
                self.assertEqual(moved(turned(other, back[0]), back[1], back[2]), shape)
        self.assertIsNone(form(shape, of_boxes(12, boxes[:2] + [(256, 256, 128, 32)])))
        cells = scattered_cells(12, 20, 3)
        self.assertEqual(form(of_cells(12, cells), turned(of_cells(12, cells), 5)), (5, 0, 0))

    def test_the_most_leaves(self):
        shape = scattered_shape(12, 666, 1)
        for turn in (0, 3, 6):
            self.assertEqual(form(shape, turned(shape, turn)), (turn, 0, 0))
        quarter = with_square(empty(12), "0", scattered_shape(11, 660, 1))
        other = with_square(empty(12), "3", turned(scattered_shape(11, 660, 1), 7))
        self.assertEqual(len(leaves_of(quarter)), 1984)
        told = form(quarter, other)
        self.assertEqual(moved(turned(quarter, told[0]), told[1], told[2]), other)
        self.assertEqual((told[0], box_of(12, "3")), (7, (2048, 2048, 2048)))


class Refusals(unittest.TestCase):
    def test_no_shape(self):
        for thing in no_shapes():
            for deed in (least, fewest):
                self.assertIs(refusal_of(deed, thing), NoShape)
            for shape in (full(3), empty(0), checkered(12)):
                self.assertIs(refusal_of(form, thing, shape), NoShape)
                self.assertIs(refusal_of(form, shape, thing), NoShape)

    def test_other_floor_ahead_of_too_many(self):
        self.assertIs(refusal_of(form, full(3), full(4)), OtherFloor)
        self.assertIs(refusal_of(form, empty(0), empty(1)), OtherFloor)
        self.assertIs(refusal_of(form, checkered(12), full(4)), OtherFloor)
        self.assertIs(refusal_of(form, full(4), checkered(12)), OtherFloor)

    def test_too_many(self):
        for n in (6, 12):
            last, beyond = scattered_shape(n, 666, 1), scattered_shape(n, 667, 1)
            self.assertEqual(form(last, last), (0, 0, 0))
            self.assertIsNone(form(last, full(n)))
            for one, other in ((beyond, beyond), (beyond, empty(n)), (empty(n), beyond), (last, beyond)):
                self.assertIs(refusal_of(form, one, other), TooMany)

    def test_what_is_handed_in_stays(self):
        shape, other = of_cells(4, [(3, 5), (9, 1)]), of_cells(4, [(9, 5), (3, 1)])
        for _ in range(2):
            self.assertEqual(least(shape), least_by_hand(4, [(3, 5), (9, 1)]))
            self.assertEqual(fewest(shape), fewest_by_hand(4, [(3, 5), (9, 1)]))
            self.assertEqual(form(shape, other), form_by_hand(4, [(3, 5), (9, 1)], [(9, 5), (3, 1)]))
        self.assertEqual((shape, other), (of_cells(4, [(3, 5), (9, 1)]), of_cells(4, [(9, 5), (3, 1)])))


if __name__ == "__main__":
    unittest.main()
