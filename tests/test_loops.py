"""Point 23: shapes made of loops."""

import unittest

from quarterfold.deeds import unlike
from quarterfold.errors import NoFloor, NoLoop
from quarterfold.loops import of_loops
from quarterfold.made import of_boxes, of_cells
from quarterfold.rims import rims_of
from quarterfold.tellings import empty, full, is_shape
from tests.aids import (number_of_cell, odd_things, refusal_of, rings, scattered, scattered_cells, scattered_shape,
                        shape_by_hand, slope, some_floors, stair)

WAYS = ("sides", "corners")


def is_full_by_hand(loops, row, column):
    """Whether an odd number of upright sides pass the cell's row on its left, its own left side counted."""
    many = 0
    for loop in loops:
        corners = list(loop)
        for one, other in zip(corners, corners[1:] + corners[:1]):
            low, high = sorted([one[0], other[0]])
            if one[1] == other[1] and one[1] <= column and low <= row < high:
                many += 1
    return many % 2 == 1


def shape_of_loops_by_hand(n, loops):
    every = [(row, column) for row in range(2 ** n) for column in range(2 ** n)]
    return shape_by_hand(n, [cell for cell in every if is_full_by_hand(loops, cell[0], cell[1])])


def scattered_loop(n, half, seed):
    """A loop of twice as many corners as half of them that goes anywhere on the floor, level first."""
    side = 2 ** n
    numbers = [number % (side + 1) for number in scattered(2 * half, seed)]
    rows, columns = [], []
    for k in range(half):
        rows.append(unlike_last(rows, numbers[2 * k], side, k == half - 1))
        columns.append(unlike_last(columns, numbers[2 * k + 1], side, k == half - 1))
    return [(rows[k // 2], columns[(k + 1) // 2 % half]) for k in range(2 * half)]


def unlike_last(before, number, side, is_end):
    """The number, or the next one on that is neither the last one before nor, at the end, the first."""
    barred = before[-1:] + (before[:1] if is_end else [])
    while number in barred:
        number = (number + 1) % (side + 1)
    return number


def rectangle(row, column, high, wide):
    return [(row, column), (row, column + wide), (row + high, column + wide), (row + high, column)]


class SmallFloors(unittest.TestCase):
    def check(self, n, loops):
        told = of_loops(n, loops)
        self.assertEqual(told, shape_of_loops_by_hand(n, loops))
        return told

    def test_anywhere_on_small_floors(self):
        for n in (1, 2, 3, 4):
            for seed in range(40):
                # On a floor of size 1 there are just three rows and columns of corners.
                loops = [scattered_loop(n, 3 + (seed + k) % 6 if n > 1 else 2 + seed % 2, 100 * seed + k)
                         for k in range(seed % 4)]
                self.check(n, loops)

    def test_one_cell(self):
        loop = rectangle(0, 0, 1, 1)
        self.assertEqual(self.check(0, [loop]), full(0))
        self.assertEqual(self.check(0, [loop, loop]), empty(0))
        self.assertEqual(self.check(0, [loop, loop, loop[::-1]]), full(0))
        self.assertEqual(of_loops(0, []), empty(0))

    def test_no_loops(self):
        for n in range(13):
            self.assertEqual(of_loops(n, []), empty(n))
            self.assertEqual(of_loops(n, ()), empty(n))
            side = 2 ** n
            self.assertEqual(of_loops(n, [rectangle(0, 0, side, side)]), full(n))

    def test_rims_give_back_their_shape(self):
        for n, cells in some_floors():
            shape = shape_by_hand(n, cells)
            for by in WAYS:
                self.assertEqual(of_loops(n, rims_of(shape, by)), shape)

    def test_beginning_elsewhere_and_the_other_way_round(self):
        for n, cells in some_floors()[::3]:
            shape = shape_by_hand(n, cells)
            for by in WAYS:
                rims = rims_of(shape, by)
                for k in (1, 2, 3):
                    self.assertEqual(of_loops(n, [rim[k:] + rim[:k] for rim in rims]), shape)
                    self.assertEqual(of_loops(n, [(rim[k:] + rim[:k])[::-1] for rim in rims]), shape)
                self.assertEqual(of_loops(n, tuple([list(rim) for rim in rims[::-1]])), shape)

    def test_crossing_and_lying_on_one_another(self):
        one, other = rectangle(1, 1, 4, 4), rectangle(3, 3, 4, 4)
        self.assertEqual(self.check(3, [one, other]), of_boxes(3, [(1, 1, 2, 4), (3, 1, 2, 2), (5, 3, 2, 4),
                                                                   (3, 5, 2, 2)]))
        self.check(3, [one, one])
        self.assertEqual(of_loops(3, [one, one]), empty(3))
        self.assertEqual(self.check(3, [one, rectangle(1, 1, 4, 2)]), of_boxes(3, [(1, 3, 4, 2)]))
        self.assertEqual(self.check(3, [one, rectangle(1, 5, 4, 2)]), of_boxes(3, [(1, 1, 4, 6)]))
        # One loop that crosses itself, like an eight, and one that goes round twice.
        self.check(3, [[(1, 1), (1, 4), (6, 4), (6, 7), (3, 7), (3, 1)]])
        self.assertEqual(self.check(3, [one + one]), empty(3))
        self.assertEqual(self.check(3, [one * 3]), of_boxes(3, [(1, 1, 4, 4)]))

    def test_to_and_fro(self):
        # Up and down again in the same two columns: rows passed an even number of times are empty.
        loop = [(0, 0), (0, 3), (3, 3), (3, 0), (1, 0), (1, 3), (4, 3), (4, 0)]
        self.assertEqual(self.check(2, [loop]), of_boxes(2, [(0, 0, 1, 3), (3, 0, 1, 3)]))
        # To and fro in one row, as far as it went and farther.
        loop = [(4, 1), (4, 6), (2, 6), (2, 3), (4, 3), (4, 7), (6, 7), (6, 1)]
        self.assertEqual(self.check(3, [loop]), of_boxes(3, [(2, 3, 2, 3), (4, 1, 2, 6)]))
        # A side that goes back along the one before it but one, and a loop of no cells at all.
        loop = [(1, 1), (1, 5), (3, 5), (3, 2), (1, 2), (1, 4), (5, 4), (5, 1)]
        self.check(3, [loop])
        loop = [(1, 1), (1, 5), (3, 5), (3, 1), (1, 1), (1, 5), (3, 5), (3, 1)]
        self.assertEqual(self.check(3, [loop]), empty(3))

    def test_level_or_upright_first(self):
        loop = rectangle(1, 2, 3, 4)
        turned = loop[1:] + loop[:1]
        self.assertEqual(self.check(3, [loop]), of_boxes(3, [(1, 2, 3, 4)]))
        self.assertEqual(self.check(3, [turned]), of_boxes(3, [(1, 2, 3, 4)]))
        self.assertEqual((loop[0][0] == loop[1][0], turned[0][1] == turned[1][1]), (True, True))


class GreatFloors(unittest.TestCase):
    def check(self, loops, seed):
        told = of_loops(12, loops)
        self.assertTrue(is_shape(told))
        for row, column in scattered_cells(12, 60, seed) + [(0, 0), (4095, 4095), (0, 4095), (2047, 2048)]:
            self.assertEqual(number_of_cell(told, row, column), int(is_full_by_hand(loops, row, column)))
        # Just beside corners and sides, too.
        for row, column in [corner for loop in loops for corner in loop][::9]:
            for down, right in ((0, 0), (-1, 0), (0, -1), (-1, -1)):
                if 0 <= row + down < 4096 and 0 <= column + right < 4096:
                    self.assertEqual(number_of_cell(told, row + down, column + right),
                                     int(is_full_by_hand(loops, row + down, column + right)))
        return told

    def test_anywhere(self):
        self.check([scattered_loop(12, 200, 1)], 1)
        self.check([scattered_loop(12, 2, seed) for seed in range(100)], 2)
        self.check([scattered_loop(12, 10, seed) for seed in range(20)], 3)

    def test_boxes(self):
        boxes = [(1, 1, 4094, 4094), (5, 7, 100, 3001), (2048, 0, 2048, 1)]
        told = of_loops(12, [rectangle(*box) for box in boxes])
        wanted = empty(12)
        for box in boxes:
            wanted = unlike(wanted, of_boxes(12, [box]))
        self.assertEqual(told, wanted)

    def test_rims(self):
        for shape in (scattered_shape(12, 60, 4), of_cells(12, stair(90)), of_cells(12, slope(99, 5, 6)),
                      of_boxes(5, rings(5, 8))):
            for by in WAYS:
                rims = rims_of(shape, by)
                self.assertEqual(of_loops(shape[0], rims), shape)
                self.assertEqual(of_loops(shape[0], [list(rim[3:] + rim[:3])[::-1] for rim in rims]), shape)


class Refusals(unittest.TestCase):
    def test_no_floor_ahead_of_no_loop(self):
        for thing in odd_things() + [13, -1, True, "3", None]:
            for loops in ([], [rectangle(0, 0, 1, 1)], None, [[]], [None]):
                self.assertIs(refusal_of(of_loops, thing, loops), NoFloor)

    def no_loops(self):
        good = rectangle(1, 2, 3, 4)
        return odd_things() + [
            [], (), good[:1], good[:2], good[:3], good + good[:1], good + [(1, 2), (1, 2)], good[:2] + good[:2][::-1],
            [(1, 1), (1, 1), (3, 1), (3, 1)], [(1, 1), (1, 1), (1, 1), (1, 1)],
            # Two level sides, or two upright ones, one behind the other.
            [(1, 1), (1, 3), (1, 5), (4, 5), (4, 3), (4, 1)], [(1, 1), (3, 1), (5, 1), (5, 4), (3, 4), (1, 4)],
            [(1, 1), (1, 3), (1, 5), (4, 5), (4, 1)], [(1, 1), (3, 1), (5, 1), (5, 4), (1, 4)],
            # From the last to the first.
            [(1, 3), (1, 5), (4, 5), (4, 1), (1, 1)], [(1, 3), (1, 5), (4, 5), (4, 1), (1, 1), (1, 2)],
            [(3, 1), (5, 1), (5, 4), (1, 4), (1, 1)], [(1, 1), (1, 4), (5, 4), (5, 1), (5, 3), (1, 3)],
            [(1, 1), (1, 4), (5, 4), (5, 2)], [(1, 1), (1, 4), (5, 4), (4, 1)], [(1, 1), (2, 2), (3, 3), (4, 4)],
            [(1, 1), (1, 4), (5, 4), (5, 1), (1, 1), (1, 4), (5, 4)], good[:3] + [good[0]],
            [(1, 1), (1, 4), (5, 4), (5, 1), (1, 1)], [(1, 1), (1, 4), (1, 1), (1, 4)],
            # Off the floor, or no corners.
            rectangle(-1, 0, 2, 2), rectangle(0, -1, 2, 2), rectangle(7, 7, 2, 1), rectangle(7, 7, 1, 2),
            rectangle(0, 0, 9, 9), [list(corner) for corner in good], good[:3] + [[4, 2]], good[:3] + [(4, 2, 0)],
            good[:3] + [(4,)], good[:3] + [None], [(True, 0), (True, 1), (2, 1), (2, 0)],
            [(0, True), (0, 2), (2, 2), (2, True)], [("0", 0), ("0", 1), (1, 1), (1, 0)], ["00", "01", "11", "10"],
            {(0, 0): 1}, {(0, 0), (0, 1), (1, 1), (1, 0)}, "abcd", good[0], iter(good),
            [(0, 0), (0, 10 ** 59), (1, 10 ** 59), (1, 0)]]

    def test_no_loop(self):
        good = rectangle(1, 2, 3, 4)
        self.assertIsNone(refusal_of(of_loops, 3, [good]))
        for thing in self.no_loops():
            self.assertIs(refusal_of(of_loops, 3, [thing]), NoLoop)
            self.assertIs(refusal_of(of_loops, 3, (good, thing)), NoLoop)
            self.assertIs(refusal_of(of_loops, 3, [thing, good]), NoLoop)

    def test_no_list_of_loops(self):
        good = rectangle(1, 2, 3, 4)
        for thing in [None, 0, True, "x", good, tuple(good), {}, {tuple(good): 1}, iter([good]), object()]:
            self.assertIs(refusal_of(of_loops, 3, thing), NoLoop)

    def test_the_floors_edge(self):
        for n in range(13):
            side = 2 ** n
            self.assertEqual(of_loops(n, [rectangle(0, 0, side, 1)]), of_boxes(n, [(0, 0, side, 1)]))
            for loop in (rectangle(0, 0, side + 1, 1), rectangle(0, 0, 1, side + 1), rectangle(side, 0, 1, 1),
                         rectangle(0, side, 1, 1)):
                self.assertIs(refusal_of(of_loops, n, [loop]), NoLoop)


class TheAskersOwn(unittest.TestCase):
    def test_what_is_handed_in_stays(self):
        loop = rectangle(1, 1, 2, 3)
        loops = [loop, tuple(loop)[::-1], rectangle(0, 0, 2, 2)]
        told = of_loops(3, loops)
        self.assertEqual(loops, [rectangle(1, 1, 2, 3), tuple(rectangle(1, 1, 2, 3))[::-1], rectangle(0, 0, 2, 2)])
        loop.append((9, 9))
        loops.clear()
        self.assertEqual(told, of_boxes(3, [(0, 0, 2, 2)]))

    def test_lists_and_tuples(self):
        loop = rectangle(1, 1, 2, 3)
        wanted = of_boxes(3, [(1, 1, 2, 3)])
        for one in (loop, tuple(loop)):
            for loops in ([one], (one,)):
                self.assertEqual(of_loops(3, loops), wanted)


if __name__ == "__main__":
    unittest.main()
