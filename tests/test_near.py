"""Points 17 and 18: what is nearest to a cell, and how deep a cell lies inside."""

import unittest

from quarterfold.errors import NoCell, NoShape, NotFull, TooMany
from quarterfold.floors import box_of
from quarterfold.leaves import leaves_of
from quarterfold.made import of_boxes, of_cells
from quarterfold.near import inside, nearest
from quarterfold.tellings import empty, full
from tests.aids import (cells_told, checkered, leaf_of_each_cell, no_shapes, not_whole, number_of_cell, odd_things,
                        refusal_of, scattered_cells, scattered_shape, shape_by_hand, some_floors)


def how_far(one, other):
    return max(abs(one[0] - other[0]), abs(one[1] - other[1]))


def nearest_by_hand(cells, leaf_of, cell):
    """Straight from the words of point 17, each cell looked at."""
    if not cells:
        return None
    far, told = min([(how_far(cell, other), other) for other in cells])
    return (far, told, sorted({leaf_of[other] for other in leaf_of if (how_far(cell, other), other) < (far, told)}))


def inside_by_hand(cells, leaf_of, cell):
    """Straight from the words of point 18, ring by ring."""
    row, column = cell
    r = 0
    while all([(row + down, column + right) in cells for down in range(-r - 1, r + 2) for right in range(-r - 1, r + 2)]):
        r += 1
    beyond = [other for other in leaf_of if other not in cells and how_far(cell, other) == r + 1]
    return (r, min(beyond, default=None), sorted({leaf_of[other] for other in leaf_of if how_far(cell, other) <= r}))


def small_shapes():
    shapes = [shape_by_hand(n, cells) for n, cells in some_floors()[::2]]
    shapes += [scattered_shape(n, many, seed) for n, many in ((3, 6), (4, 9), (4, 30)) for seed in range(3)]
    return shapes + [of_boxes(4, [(2, 3, 11, 10)]), of_boxes(4, [(0, 0, 9, 16), (12, 5, 2, 2)]), full(4), empty(4)]


class CellByCell(unittest.TestCase):
    def check(self, shape):
        cells, leaf_of = cells_told(shape), leaf_of_each_cell(shape)
        for row, column in leaf_of:
            self.assertEqual(nearest(shape, row, column), nearest_by_hand(cells, leaf_of, (row, column)))
            if (row, column) in cells:
                self.assertEqual(nearest(shape, row, column), (0, (row, column), []))
                self.assertEqual(inside(shape, row, column), inside_by_hand(cells, leaf_of, (row, column)))
            else:
                self.assertIs(refusal_of(inside, shape, row, column), NotFull)

    def test_every_cell(self):
        for shape in small_shapes():
            self.check(shape)


class Nearest(unittest.TestCase):
    def test_by_hand(self):
        # Leaves with a cell as far as (0, 3), but not ahead of it, are not told: 13, 22, 23.
        self.assertEqual(nearest(of_cells(2, [(0, 3), (3, 0)]), 0, 0), (3, (0, 3), ["0", "10", "12", "20", "21", "3"]))
        self.assertEqual(nearest(of_cells(1, [(1, 1)]), 0, 0), (1, (1, 1), ["0", "1", "2"]))
        self.assertEqual(nearest(of_cells(1, [(0, 1), (1, 1)]), 0, 0), (1, (0, 1), ["0"]))
        self.assertEqual(nearest(of_cells(1, [(0, 0)]), 1, 1), (1, (0, 0), ["3"]))

    def test_of_several_the_first(self):
        for cells in ([(1, 1), (1, 3), (3, 1), (3, 3)], [(1, 2), (2, 1)], [(2, 3), (3, 1), (3, 3)], [(2, 1), (2, 3)]):
            self.assertEqual(nearest(of_cells(3, cells), 2, 2)[:2], (1, cells[0]))
        self.assertEqual(nearest(of_boxes(12, [(1024, 1024, 1024, 1024)]), 3000, 1500)[:2], (953, (2047, 1024)))

    def test_kinds(self):
        told = nearest(of_cells(3, [(7, 7)]), 0, 0)
        self.assertEqual([type(part) for part in told], [int, tuple, list])
        self.assertIsInstance(told, tuple)

    def test_nothing_is_full(self):
        for n in range(13):
            self.assertIsNone(nearest(empty(n), 0, 2 ** n - 1))
            self.assertEqual(nearest(full(n), 2 ** n - 1, 0), (0, (2 ** n - 1, 0), []))

    def test_far_cells(self):
        shape = of_cells(12, [(4095, 4095)])
        others = [address for address, is_full in leaves_of(shape) if not is_full]
        self.assertEqual(nearest(shape, 0, 0), (4095, (4095, 4095), others))
        shape = of_cells(12, [(0, 4095), (4095, 0), (4095, 4095)])
        self.assertEqual(nearest(shape, 0, 0)[:2], (4095, (0, 4095)))
        self.assertEqual(nearest(shape, 2047, 0)[:2], (2048, (4095, 0)))
        self.assertEqual(nearest(shape, 4095, 2048)[:2], (2047, (4095, 4095)))


def on_floor(box):
    """What a floor of size 12 has of a box (first row, first column, row behind it, column behind it)."""
    return (max(box[0], 0), max(box[1], 0), min(box[2], 4096), min(box[3], 4096))


def in_common(box, other):
    """How many cells two boxes have in common."""
    high = min(box[2], other[2]) - max(box[0], other[0])
    wide = min(box[3], other[3]) - max(box[1], other[1])
    return max(high, 0) * max(wide, 0)


def around(cell, far):
    """The box of the cells at most so far from the cell, counted on beyond the floor."""
    return (cell[0] - far, cell[1] - far, cell[0] + far + 1, cell[1] + far + 1)


def ahead(box, cell):
    """The boxes of those of the box's cells that stand ahead of the cell in order; the cell is one of them."""
    row, column = cell
    return [(box[0], box[1], row, box[3]), (row, box[1], row + 1, column)]


def not_ahead(box, cell):
    """The boxes of those of the box's cells that don't stand ahead of the cell in order."""
    row, column = cell
    if row < box[0]:
        return [box]
    return [(row, max(column, box[1]), min(row + 1, box[2]), box[3]), (row + 1, box[1], box[2], box[3])]


class GreatFloors(unittest.TestCase):
    """What is told is shown by the told leaves: they cover all that lies there, and nothing else."""

    def box_of_leaf(self, address):
        row, column, side = box_of(12, address)
        return (row, column, row + side, column + side)

    def covered(self, boxes, addresses):
        """Whether the leaves at the addresses have all cells of the boxes on the floor, and each leaf has one."""
        boxes = [on_floor(box) for box in boxes]
        shares = [sum([in_common(box, self.box_of_leaf(address)) for box in boxes]) for address in addresses]
        return min(shares, default=1) > 0 and sum(shares) == sum([in_common(box, box) for box in boxes])

    def check_nearest(self, shape, leaves, cell):
        far, told, addresses = nearest(shape, cell[0], cell[1])
        self.assertEqual(number_of_cell(shape, told[0], told[1]), 1)
        self.assertEqual(how_far(cell, told), far)
        self.assertEqual(addresses, sorted(addresses))
        self.assertEqual({leaves[address] for address in addresses} - {False}, set())
        if far == 0:
            self.assertEqual(addresses, [])
        else:
            boxes = ahead(around(cell, far), told) + not_ahead(around(cell, far - 1), told)
            self.assertTrue(self.covered(boxes, addresses))

    def check_inside(self, shape, leaves, cell):
        r, told, addresses = inside(shape, cell[0], cell[1])
        self.assertEqual(addresses, sorted(addresses))
        self.assertEqual({leaves[address] for address in addresses}, {True})
        self.assertEqual(on_floor(around(cell, r)), around(cell, r))
        self.assertTrue(self.covered([around(cell, r)], addresses))
        wider = around(cell, r + 1)
        full_ones = [address for address in leaves if leaves[address]]
        if told is None:
            self.assertNotEqual(on_floor(wider), wider)
            self.assertTrue(self.covered([wider], self.that_meet([wider], full_ones)))
        else:
            self.assertEqual((number_of_cell(shape, told[0], told[1]), how_far(cell, told)), (0, r + 1))
            boxes = ahead(wider, told)
            self.assertTrue(self.covered(boxes, self.that_meet(boxes, full_ones)))

    def that_meet(self, boxes, addresses):
        return [address for address in addresses
                if any([in_common(on_floor(box), self.box_of_leaf(address)) for box in boxes])]

    def great_shapes(self):
        shapes = [scattered_shape(12, 400, seed) for seed in range(4)]
        shapes += [of_cells(12, scattered_cells(12, 12, 5)), of_boxes(12, [(0, 0, 4096, 4000), (32, 4032, 64, 64)]),
                   of_boxes(12, [(0, 0, 3072, 4096), (3584, 0, 512, 4096), (3072, 0, 512, 2048)])]
        return shapes

    def test_shown_by_the_leaves(self):
        deepest = farthest = 0
        for shape in self.great_shapes():
            leaves = dict(leaves_of(shape))
            for cell in scattered_cells(12, 25, 6) + [(0, 0), (4095, 4095), (0, 4095), (2047, 2048), (1500, 1500)]:
                self.check_nearest(shape, leaves, cell)
                farthest = max(farthest, nearest(shape, cell[0], cell[1])[0])
                if number_of_cell(shape, cell[0], cell[1]) == 1:
                    self.check_inside(shape, leaves, cell)
                    deepest = max(deepest, inside(shape, cell[0], cell[1])[0])
        self.assertGreater(farthest, 500)
        self.assertGreater(deepest, 500)


class Inside(unittest.TestCase):
    def test_a_full_floor(self):
        for n in range(13):
            side = 2 ** n
            for row, column in [(0, 0), (0, side - 1), (side - 1, 0), (side // 2, side // 2), (side // 3, side - 1)]:
                deep = min(row, column, side - 1 - row, side - 1 - column)
                self.assertEqual(inside(full(n), row, column), (deep, None, [""]))

    def test_by_hand(self):
        shape = of_boxes(3, [(0, 0, 8, 7)])
        self.assertEqual(inside(shape, 3, 3)[:2], (3, (0, 7)))
        self.assertEqual(inside(shape, 2, 3)[:2], (2, None))
        self.assertEqual(inside(shape, 4, 4)[:2], (2, (1, 7)))
        self.assertEqual(inside(shape, 0, 0)[:2], (0, None))
        self.assertEqual(inside(shape, 0, 6)[:2], (0, (0, 7)))
        self.assertEqual(inside(of_cells(1, [(0, 0)]), 0, 0), (0, (0, 1), ["0"]))
        self.assertEqual(inside(of_cells(1, [(0, 0), (0, 1)]), 0, 1), (0, (1, 0), ["1"]))

    def test_the_edge_and_an_empty_cell_as_far(self):
        # The floor ends as near as an empty cell stands: the empty cell is told.
        shape = of_boxes(3, [(0, 0, 8, 3)])
        self.assertEqual(inside(shape, 4, 1)[:2], (1, (2, 3)))
        self.assertEqual(inside(shape, 0, 2)[:2], (0, (0, 3)))

    def test_kinds(self):
        told = inside(of_boxes(3, [(0, 0, 8, 3)]), 4, 1)
        self.assertEqual([type(part) for part in told], [int, tuple, list])
        self.assertIsInstance(told, tuple)

    def test_deep_on_great_floors(self):
        shape = of_boxes(12, [(0, 0, 4096, 4032)])
        self.assertEqual(inside(shape, 2000, 2000)[:2], (2000, None))
        self.assertEqual(inside(shape, 2048, 2048)[:2], (1983, (64, 4032)))
        self.assertEqual(inside(of_boxes(12, [(0, 0, 4096, 2048)]), 2048, 1024), (1023, (1024, 2048), ["0", "2"]))


class Refusals(unittest.TestCase):
    def test_the_edge_of_coarse(self):
        for n in (6, 12):
            last, beyond = scattered_shape(n, 666, 1), scattered_shape(n, 667, 1)
            self.assertEqual(len(leaves_of(last)), 1999)
            for row, column in scattered_cells(n, 10, 1):
                self.assertIsNone(refusal_of(nearest, last, row, column))
                is_empty = number_of_cell(last, row, column) == 0
                self.assertIs(refusal_of(inside, last, row, column), NotFull if is_empty else None)
                # Full or empty: too many leaves are refused ahead of an empty cell.
                for deed in (nearest, inside):
                    self.assertIs(refusal_of(deed, beyond, row, column), TooMany)
        for deed in (nearest, inside):
            for column in (0, 1):
                self.assertIs(refusal_of(deed, checkered(12), 0, column), TooMany)

    def test_no_cell_ahead_of_too_many(self):
        for shape in (empty(0), full(3), of_cells(3, [(1, 1)]), checkered(12)):
            for thing in not_whole() + [True, False, -1, 2 ** shape[0], 10 ** 59, -(10 ** 59), "0", (0,), None]:
                for deed in (nearest, inside):
                    self.assertIs(refusal_of(deed, shape, thing, 0), NoCell)
                    self.assertIs(refusal_of(deed, shape, 0, thing), NoCell)
                    self.assertIs(refusal_of(deed, shape, thing, thing), NoCell)
        for thing in odd_things():
            self.assertIs(refusal_of(nearest, full(2), thing, thing), NoCell)

    def test_no_shape_ahead_of_all(self):
        for thing in no_shapes():
            for row, column in ((0, 0), (-1, 0), (0, None), (True, "0")):
                for deed in (nearest, inside):
                    self.assertIs(refusal_of(deed, thing, row, column), NoShape)

    def test_not_full(self):
        for n in (0, 1, 12):
            self.assertIs(refusal_of(inside, empty(n), 0, 0), NotFull)
        self.assertIs(refusal_of(inside, of_cells(12, [(5, 5)]), 5, 6), NotFull)


class TheAskersOwn(unittest.TestCase):
    def test_a_told_list_has_no_bearing_later(self):
        shape = of_boxes(3, [(2, 2, 5, 6)])
        for deed, row, column in ((nearest, 0, 0), (inside, 4, 4)):
            told = deed(shape, row, column)
            before = (told[0], told[1], list(told[2]))
            self.assertTrue(told[2])
            told[2].clear()
            told[2].append("9")
            self.assertEqual(deed(shape, row, column), before)
        self.assertEqual(shape, of_boxes(3, [(2, 2, 5, 6)]))


if __name__ == "__main__":
    unittest.main()
