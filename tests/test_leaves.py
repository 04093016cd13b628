"""Point 11: leaves, and that few rows with many leaves are gone row by row."""

import unittest

from quarterfold.errors import NoShape, TooMany
from quarterfold.floors import box_of
from quarterfold.leaves import leaves_of
from quarterfold.made import cells_of, is_full, of_boxes, of_cells, square_at, with_square
from quarterfold.shapetexts import read_shape, shape_text
from quarterfold.steps import one_telling, steps_of
from quarterfold.tellings import empty, full, is_shape
from tests.aids import checkered, no_shapes, shape_by_hand, some_floors

A = (0, 1, 1, 0)


def with_unplain(size, many):
    """A shape of that size in which so many squares aren't plain: it has three times as many leaves and one."""
    if many == 0:
        return empty(size)
    shape = empty(size)
    left = many - 1
    for at in range(4):
        share = min(left, (4 ** (size - 1) - 1) // 3)
        left -= share
        # The last quarter is full where it is plain, so that the four are never alike.
        new = full(size - 1) if at == 3 and share == 0 else with_unplain(size - 1, share)
        shape = with_square(shape, str(at), new)
    assert left == 0, "a floor of this size has fewer squares"
    return shape


class LeavesOf(unittest.TestCase):
    def test_plain_floors(self):
        for n in range(13):
            self.assertEqual(leaves_of(empty(n)), [("", False)])
            self.assertEqual(leaves_of(full(n)), [("", True)])

    def test_by_hand(self):
        self.assertEqual(leaves_of((1, 2, (A,))), [("0", False), ("1", True), ("2", True), ("3", False)])
        self.assertEqual(leaves_of((12, 2, (A,))), [("0", False), ("1", True), ("2", True), ("3", False)])
        self.assertEqual(leaves_of(of_cells(2, [(0, 1), (1, 0), (2, 2), (2, 3), (3, 2), (3, 3)])),
                         [("00", False), ("01", True), ("02", True), ("03", False), ("1", False), ("2", False),
                          ("3", True)])

    def test_each_cell_in_just_one_leaf(self):
        for n, cells in some_floors():
            told = leaves_of(shape_by_hand(n, cells))
            self.assertIsInstance(told, list)
            self.assertEqual(told, sorted(told))
            covered = []
            for address, is_leaf_full in told:
                self.assertIn(is_leaf_full, (True, False))
                self.assertIsInstance(is_leaf_full, bool)
                row, column, side = box_of(n, address)
                mine = [(row + down, column + right) for down in range(side) for right in range(side)]
                self.assertEqual({cell in cells for cell in mine}, {is_leaf_full})
                covered.extend(mine)
            self.assertEqual(len(covered), 4 ** n)
            self.assertEqual(len(set(covered)), 4 ** n)
            self.no_four_alike(told)

    def no_four_alike(self, told):
        """No leaf could be greater: its square is the floor's, or the square around it isn't plain."""
        by_parent = {}
        for address, is_leaf_full in told:
            if address:
                by_parent.setdefault(address[:-1], []).append(is_leaf_full)
        for found in by_parent.values():
            self.assertFalse(len(found) == 4 and len(set(found)) == 1)

    def test_as_many_as_wanted(self):
        for size in (6, 12):
            for many in (0, 1, 2, 22, 341, 665, 666):
                self.assertEqual(len(leaves_of(with_unplain(size, many))), 1 + 3 * many)

    def test_the_edge_of_coarse(self):
        # 1,999 leaves are told and 2,002 refused: how many there are is always one more than a multiple of three.
        for size in (6, 12):
            self.assertEqual(len(leaves_of(with_unplain(size, 666))), 1999)
            with self.assertRaises(TooMany):
                leaves_of(with_unplain(size, 667))

    def test_no_shape(self):
        for thing in no_shapes():
            with self.assertRaises(NoShape):
                leaves_of(thing)

    def test_a_told_list_is_the_askers_own(self):
        told = leaves_of(full(3))
        told.append(("9", False))
        told[0] = None
        self.assertEqual(leaves_of(full(3)), [("", True)])


class SixteenMillionLeaves(unittest.TestCase):
    def test_refused(self):
        for size in (6, 7, 12):
            with self.assertRaises(TooMany):
                leaves_of(checkered(size))
        with self.assertRaises(TooMany):
            cells_of(checkered(12))

    def test_answered(self):
        shape = checkered(12)
        self.assertIs(is_shape(shape), True)
        self.assertEqual(read_shape(shape_text(shape)), shape)
        self.assertEqual(steps_of(shape), [])
        self.assertEqual(one_telling(shape), shape)
        doubled = (A, A) + tuple([(k + 1,) * 4 for k in range(2, 13)])
        self.assertEqual(one_telling((12, 14, doubled)), shape)
        self.assertIs(is_full(shape, 4095, 4094), True)
        self.assertEqual(square_at(shape, "3"), checkered(11))
        changed = with_square(shape, "3" * 12, full(0))
        self.assertTrue(is_shape(changed))
        self.assertIs(is_full(changed, 4095, 4095), True)
        self.assertIs(is_full(changed, 4095, 4093), False)
        self.assertEqual(with_square(changed, "3" * 12, empty(0)), shape)

    def test_made_of_stripes(self):
        # Rows that are full by turns: eight million full cells, and as many leaves as cells.
        shape = of_boxes(12, [(2 * k, 0, 1, 4096) for k in range(2048)])
        self.assertEqual(shape, (12, 13, ((1, 1, 0, 0),) + tuple([(k + 1,) * 4 for k in range(1, 12)])))


if __name__ == "__main__":
    unittest.main()
