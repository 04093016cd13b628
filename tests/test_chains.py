"""Point 21: chains of full leaves from one cell to another."""

import unittest

from quarterfold.chains import chain
from quarterfold.errors import NoCell, NoShape, NotFull, NoWay, TooMany
from quarterfold.floors import address_of, box_of
from quarterfold.leaves import leaves_of
from quarterfold.made import of_boxes, of_cells
from quarterfold.parts import parts_of
from quarterfold.scales import larger
from quarterfold.tellings import empty, full
from tests.aids import (cells_beside, checkered, leaf_of_each_cell, no_shapes, number_of_cell, odd_things, refusal_of,
                        scattered, scattered_cells, scattered_shape, shape_by_hand, slope, snake, some_floors, stair)

WAYS = ("sides", "corners")


def do_touch(n, one, other, by):
    """Whether two squares have cells that touch by that way, told by their boxes."""
    row, column, side = box_of(n, one)
    other_row, other_column, other_side = box_of(n, other)
    high = min(row + side, other_row + other_side) - max(row, other_row)
    wide = min(column + side, other_column + other_side) - max(column, other_column)
    if by == "sides":
        return (high == 0 and wide > 0) or (wide == 0 and high > 0)
    return min(high, wide) == 0


def links_by_hand(shape, by):
    """Which full leaves touch which, reckoned from each cell of a small floor."""
    leaf_of = leaf_of_each_cell(shape)
    full_ones = dict(leaves_of(shape))
    links = {}
    for cell in leaf_of:
        for near in cells_beside(cell, by):
            one, other = leaf_of[cell], leaf_of.get(near)
            if other not in (None, one) and full_ones[one] and full_ones[other]:
                links.setdefault(one, set()).add(other)
    return links


def how_many_by_hand(links, start):
    """For each leaf that the start is led to: how many leaves a shortest way has, both ends counted."""
    found, edge = {start: 1}, [start]
    while edge:
        farther = []
        for here in edge:
            for address in links.get(here, ()):
                if address not in found:
                    found[address] = found[here] + 1
                    farther.append(address)
        edge = farther
    return found


class SmallFloors(unittest.TestCase):
    def check(self, shape, by, links, one, other):
        n = shape[0]
        leaf_of = leaf_of_each_cell(shape)
        told = chain(shape, by, one, other)
        wanted = how_many_by_hand(links, leaf_of[one]).get(leaf_of[other])
        if wanted is None:
            self.assertIsNone(told)
            return
        self.assertIs(type(told), list)
        self.assertEqual((told[0], told[-1], len(told)), (leaf_of[one], leaf_of[other], wanted))
        self.assertEqual(len(set(told)), len(told))
        for here, behind in zip(told, told[1:]):
            self.assertIn(behind, links[here])
            self.assertTrue(do_touch(n, here, behind, by))

    def check_some(self, shape, cells, seed):
        links = {by: links_by_hand(shape, by) for by in WAYS}
        picks = scattered(24, seed)
        for k in range(0, 24, 2):
            one, other = cells[picks[k] % len(cells)], cells[picks[k + 1] % len(cells)]
            for by in WAYS:
                self.check(shape, by, links[by], one, other)

    def test_all_pairs_of_size_1(self):
        for n, cells in some_floors():
            if n < 2:
                shape = shape_by_hand(n, cells)
                for by in WAYS:
                    links = links_by_hand(shape, by)
                    for one in cells:
                        for other in cells:
                            self.check(shape, by, links, one, other)

    def test_small_floors(self):
        for seed, (n, cells) in enumerate(some_floors()):
            if n >= 2 and cells:
                self.check_some(shape_by_hand(n, cells), cells, seed)

    def test_leaves_of_unlike_sizes(self):
        for seed in range(10):
            shape = scattered_shape(4, 12 + 2 * seed, seed)
            cells = [cell for cell in scattered_cells(4, 60, seed) if number_of_cell(shape, cell[0], cell[1]) == 1]
            self.check_some(shape, cells, seed)


class ByHand(unittest.TestCase):
    def test_one_leaf(self):
        for n in range(13):
            last = 2 ** n - 1
            for by in WAYS:
                self.assertEqual(chain(full(n), by, (0, 0), (0, 0)), [""])
                self.assertEqual(chain(full(n), by, (0, 0), (last, last)), [""])
        shape = of_boxes(12, [(0, 2048, 2048, 2048), (4095, 0, 1, 1)])
        for by in WAYS:
            self.assertEqual(chain(shape, by, (0, 2048), (2047, 4095)), ["1"])
            self.assertEqual(chain(shape, by, (4095, 0), (4095, 0)), ["2" * 12])

    def test_unlike_parts(self):
        shape = of_cells(3, [(0, 0), (0, 2), (7, 7)])
        for by in WAYS:
            self.assertIsNone(chain(shape, by, (0, 0), (0, 2)))
            self.assertIsNone(chain(shape, by, (7, 7), (0, 0)))

    def test_by_corners_alone(self):
        shape = of_cells(1, [(0, 1), (1, 0)])
        self.assertIsNone(chain(shape, "sides", (0, 1), (1, 0)))
        self.assertEqual(chain(shape, "corners", (0, 1), (1, 0)), ["1", "2"])
        self.assertEqual(chain(shape, "corners", (1, 0), (0, 1)), ["2", "1"])
        shape = of_cells(12, slope(660))
        self.assertIsNone(chain(shape, "sides", (0, 0), (659, 659)))
        told = chain(shape, "corners", (0, 0), (659, 659))
        self.assertEqual(told, [address_of(12, k, k, 0) for k in range(660)])

    def test_a_corner_is_a_shorter_way(self):
        shape = of_cells(2, [(0, 0), (0, 1), (1, 1), (2, 2), (1, 2)])
        self.assertEqual(chain(shape, "corners", (0, 0), (2, 2)), ["00", "03", "30"])
        self.assertEqual(chain(shape, "sides", (0, 0), (2, 2)), ["00", "01", "03", "12", "30"])

    def test_great_leaves_make_short_ways(self):
        # The way through the great leaf below has three leaves; along the cells above it would have many.
        shape = of_boxes(5, [(15, 0, 1, 32), (16, 0, 16, 32)])
        told = chain(shape, "sides", (15, 0), (15, 31))
        self.assertEqual(len(told), 4)
        self.assertEqual((told[0], told[-1]), (address_of(5, 15, 0, 0), address_of(5, 15, 31, 0)))
        self.assertEqual(told[1:3], ["2", "3"])


class GreatFloors(unittest.TestCase):
    def check(self, shape, by, one, other):
        told = chain(shape, by, one, other)
        leaves = dict(leaves_of(shape))
        self.assertTrue(all([leaves[address] for address in told]))
        self.assertEqual(len(set(told)), len(told))
        self.assertTrue(address_of(shape[0], one[0], one[1], 0).startswith(told[0]))
        self.assertTrue(address_of(shape[0], other[0], other[1], 0).startswith(told[-1]))
        for here, behind in zip(told, told[1:]):
            self.assertTrue(do_touch(shape[0], here, behind, by))
        return told

    def test_long_thin_ones(self):
        shape = of_cells(12, stair(328))
        told = self.check(shape, "sides", (0, 0), (327, 328))
        self.assertEqual(len(told), 656)
        self.assertEqual(len(self.check(shape, "corners", (0, 0), (327, 327))), 328)
        shape = of_cells(6, snake(64, 30))
        self.assertEqual(len(self.check(shape, "sides", (0, 0), (28, 63))), 15 * 64 + 14)
        shape = of_cells(5, snake(32, 32))
        for _ in range(7):
            shape = larger(shape)
        self.assertEqual(len(self.check(shape, "sides", (100, 50), (30 * 128 + 1, 5))), 16 * 32 + 15)

    def test_led_to_each_other_within_a_part_alone(self):
        shape = scattered_shape(12, 666, 2)
        for by in WAYS:
            parts = [part for part in parts_of(shape, by)][:12]
            firsts = [self.some_cells(part) for part in parts]
            for cells in firsts:
                self.check(shape, by, cells[0], cells[-1])
            for here, behind in zip(firsts, firsts[1:]):
                self.assertIsNone(chain(shape, by, here[0], behind[0]))

    def some_cells(self, part):
        return [box_of(part[0], address)[:2] for address, is_leaf_full in leaves_of(part) if is_leaf_full]

    def test_as_few_as_can_be(self):
        shape = scattered_shape(12, 200, 3)
        full_ones = [address for address, is_leaf_full in leaves_of(shape) if is_leaf_full]
        for by in WAYS:
            links = {one: [other for other in full_ones if do_touch(12, one, other, by)] for one in full_ones}
            for start in full_ones[::60]:
                found = how_many_by_hand(links, start)
                for goal in full_ones[::35]:
                    told = chain(shape, by, box_of(12, start)[:2], box_of(12, goal)[:2])
                    self.assertEqual(found.get(goal), None if told is None else len(told))


class Refusals(unittest.TestCase):
    def test_no_shape_ahead_of_all(self):
        for thing in no_shapes():
            for by, cell in (("sides", (0, 0)), ("side", (0, 0)), (None, None), ("corners", [0, 0])):
                self.assertIs(refusal_of(chain, thing, by, cell, cell), NoShape)

    def test_no_way_ahead_of_too_many_and_cells(self):
        for shape in (empty(0), full(3), checkered(12)):
            for thing in odd_things() + ["side", "Sides", "", None, True, ["sides"]]:
                for cell in ((0, 0), (-1, 0), None):
                    self.assertIs(refusal_of(chain, shape, thing, cell, cell), NoWay)

    def test_too_many_ahead_of_cells(self):
        last, beyond = scattered_shape(12, 666, 1), scattered_shape(12, 667, 1)
        for by in WAYS:
            for cell in ((0, 0), (0, 1), None, (4096, 0), [0, 0]):
                self.assertIs(refusal_of(chain, beyond, by, cell, cell), TooMany)
                self.assertIs(refusal_of(chain, checkered(12), by, cell, cell), TooMany)
            is_empty = number_of_cell(last, 0, 0) == 0
            self.assertIs(refusal_of(chain, last, by, (0, 0), (0, 0)), NotFull if is_empty else None)
            full_one = [address for address, is_leaf_full in leaves_of(last) if is_leaf_full][0]
            cell = box_of(12, full_one)[:2]
            self.assertEqual(chain(last, by, cell, cell), [full_one])

    def test_no_cell_ahead_of_not_full(self):
        no_cells = odd_things() + [[0, 0], (0,), (0, 0, 0), (True, 0), (0, False), (-1, 0), (0, 8), (8, 0), "00",
                                   (0, "0"), ((0, 0), (0, 0)), (0, None), (10 ** 59, 0), 0]
        for shape in (full(3), empty(3), of_cells(3, [(0, 0)])):
            for thing in no_cells:
                for by in WAYS:
                    self.assertIs(refusal_of(chain, shape, by, thing, (0, 0)), NoCell)
                    self.assertIs(refusal_of(chain, shape, by, (0, 0), thing), NoCell)
                    self.assertIs(refusal_of(chain, shape, by, (5, 5), thing), NoCell)
                    self.assertIs(refusal_of(chain, shape, by, thing, thing), NoCell)
        self.assertIs(refusal_of(chain, full(0), "sides", (0, 0), (0, 1)), NoCell)
        self.assertIs(refusal_of(chain, full(12), "sides", (4095, 4095), (4096, 4095)), NoCell)

    def test_not_full(self):
        shape = of_cells(3, [(0, 0)])
        for by in WAYS:
            self.assertIs(refusal_of(chain, shape, by, (0, 0), (0, 1)), NotFull)
            self.assertIs(refusal_of(chain, shape, by, (0, 1), (0, 0)), NotFull)
            self.assertIs(refusal_of(chain, shape, by, (7, 7), (7, 7)), NotFull)
            self.assertIs(refusal_of(chain, empty(12), by, (7, 7), (7, 7)), NotFull)


class TheAskersOwn(unittest.TestCase):
    def test_a_told_list_has_no_bearing_later(self):
        shape = of_cells(3, [(0, 0), (0, 1), (0, 2)])
        told = chain(shape, "sides", (0, 0), (0, 2))
        kept = list(told)
        told.clear()
        self.assertEqual(chain(shape, "sides", (0, 0), (0, 2)), kept)
        self.assertEqual(shape, of_cells(3, [(0, 0), (0, 1), (0, 2)]))


if __name__ == "__main__":
    unittest.main()
