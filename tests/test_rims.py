"""Point 22: rims, what they hold, and the rim round a cell."""

import unittest

from quarterfold.counts import many_cells
from quarterfold.deeds import joined
from quarterfold.errors import NoCell, NoShape, NoWay, TooMany
from quarterfold.leaves import count_leaves, leaves_of
from quarterfold.loops import of_loops
from quarterfold.made import of_boxes, of_cells, with_square
from quarterfold.parts import holes_of, parts_of
from quarterfold.rims import held, rim_round, rims_of
from quarterfold.scales import larger
from quarterfold.tellings import empty, full
from tests.aids import (bit_rows, cells_from_bits, cells_told, checkered, comb, holes_by_hand, no_shapes, not_whole,
                        number_of_cell, odd_things, parts_by_hand, refusal_of, rings, scattered, scattered_cells,
                        scattered_shape, shape_by_hand, slope, snake, some_floors, stair)

WAYS = ("sides", "corners")


def sides_by_hand(cells):
    """The sides (corner, next corner, cell) that rims go along, one cell long, the cell on the right hand."""
    sides = []
    for row, column in cells:
        corners = [(row, column), (row, column + 1), (row + 1, column + 1), (row + 1, column)]
        beyond = [(row - 1, column), (row, column + 1), (row + 1, column), (row, column - 1)]
        for at in range(4):
            if beyond[at] not in cells:
                sides.append((corners[at], corners[(at + 1) % 4], (row, column)))
    return sides


def side_behind(side, leaving, by):
    """The side along which a rim goes on: where two leave, along the same cell by sides, the other one by corners."""
    found = leaving[side[1]]
    if len(found) == 1:
        return found[0]
    return [one for one in found if (one[2] == side[2]) == (by == "sides")][0]


def rim_by_hand(sides):
    """The rim of sides one behind another: the corners between sides that aren't in line, the least one first."""
    corners = []
    for side, following in zip(sides, sides[1:] + sides[:1]):
        if not side[0][0] == following[1][0] and not side[0][1] == following[1][1]:
            corners.append(side[1])
    at = corners.index(min(corners))
    return tuple(corners[at:] + corners[:at])


def rims_by_hand(cells, by):
    cells = set(cells)
    sides = sides_by_hand(cells)
    leaving = {}
    for side in sides:
        leaving.setdefault(side[0], []).append(side)
    left, rims = set(sides), []
    for start in sides:
        if start in left:
            walked, side = [], start
            while side in left:
                left.discard(side)
                walked.append(side)
                side = side_behind(side, leaving, by)
            assert side == start, "a rim doesn't come back to where it began"
            rims.append(rim_by_hand(walked))
    return sorted(rims)


def is_outer(rim):
    return rim[0][0] == rim[1][0]


def gone_round_by_hand(n, group, by):
    """How many cells a part, or a hole, has together with all that lies shut in by it."""
    return len(group.union(*holes_by_hand(n, group, by)))


def small_floors():
    floors = some_floors() + [(2, cells_from_bits(2, bits % 2 ** 16)) for bits in scattered(200, 3)]
    wide = scattered(80, 4)
    for k in range(0, 80, 2):
        floors.append((3, cells_from_bits(3, wide[k] << 32 | wide[k + 1])))
    for seed in range(8):
        floors.append((4, sorted(cells_told(scattered_shape(4, 20 + 5 * seed, seed)))))
    floors.append((4, sorted(cells_told(of_boxes(4, rings(4, 4))))))
    return floors


class SmallFloors(unittest.TestCase):
    def check(self, n, cells):
        shape = shape_by_hand(n, cells)
        for by in WAYS:
            told = rims_of(shape, by)
            self.assertEqual(told, rims_by_hand(cells, by))
            self.assertIs(type(told), list)
            self.assertTrue(all([type(rim) is tuple for rim in told]))
            self.assertLessEqual(sum([len(rim) for rim in told]), 4 * len(leaves_of(shape)))
            self.assertEqual({rim.count(rim[0]) for rim in told} - {1}, set())
            self.check_held(n, set(cells), by, told)

    def check_held(self, n, cells, by, told):
        parts, holes = parts_by_hand(cells, by), holes_by_hand(n, cells, by)
        self.assertEqual(sorted([min(part) for part in parts]), [rim[0] for rim in told if is_outer(rim)])
        self.assertEqual(sorted([min(hole) for hole in holes]), [rim[0] for rim in told if not is_outer(rim)])
        self.assertEqual(sum([held(rim) for rim in told]), len(cells))
        for rim in told:
            groups = parts if is_outer(rim) else holes
            group = [one for one in groups if min(one) == rim[0]][0]
            if is_outer(rim):
                self.assertEqual(held(rim), gone_round_by_hand(n, group, by))
            else:
                self.assertEqual(held(rim), -gone_round_by_hand(n, group, "sides" if by == "corners" else "corners"))

    def test_small_floors(self):
        for n, cells in small_floors():
            self.check(n, cells)

    def test_around_one_cell(self):
        around = [(row, column) for row in range(3) for column in range(3)]
        for bits in range(512):
            self.check(2, [(row + 1, column + 1) for at, (row, column) in enumerate(around) if bits >> at & 1])

    def test_round_every_cell(self):
        floors = some_floors()
        for n, cells in floors[:18] + floors[18::4] + [(4, sorted(cells_told(of_boxes(4, rings(4, 3)))))]:
            shape = shape_by_hand(n, cells)
            for by in WAYS:
                rims = rims_by_hand(cells, by)
                wanted = {}
                for groups, outer in ((parts_by_hand(cells, by), True), (holes_by_hand(n, cells, by), False)):
                    for group in groups:
                        mine = [rim for rim in rims if rim[0] == min(group) and is_outer(rim) == outer]
                        self.assertEqual(len(mine), 1)
                        wanted.update({cell: mine[0] for cell in group})
                for row in range(2 ** n):
                    for column in range(2 ** n):
                        self.assertEqual(rim_round(shape, by, row, column), wanted.get((row, column)))


class ByHand(unittest.TestCase):
    def test_plain_floors(self):
        for n in range(13):
            side = 2 ** n
            for by in WAYS:
                self.assertEqual(rims_of(empty(n), by), [])
                rim = ((0, 0), (0, side), (side, side), (side, 0))
                self.assertEqual(rims_of(full(n), by), [rim])
                self.assertEqual(held(rim), side * side)
                self.assertIsNone(rim_round(empty(n), by, 0, 0))
                self.assertEqual(rim_round(full(n), by, side - 1, side // 2), rim)

    def test_a_corner_alone_in_common(self):
        shape = of_cells(1, [(0, 0), (1, 1)])
        self.assertEqual(rims_of(shape, "sides"), [((0, 0), (0, 1), (1, 1), (1, 0)), ((1, 1), (1, 2), (2, 2), (2, 1))])
        self.assertEqual(rims_of(shape, "corners"),
                         [((0, 0), (0, 1), (1, 1), (1, 2), (2, 2), (2, 1), (1, 1), (1, 0))])
        shape = of_cells(1, [(0, 1), (1, 0)])
        self.assertEqual(rims_of(shape, "sides"), [((0, 1), (0, 2), (1, 2), (1, 1)), ((1, 0), (1, 1), (2, 1), (2, 0))])
        self.assertEqual(rims_of(shape, "corners"),
                         [((0, 1), (0, 2), (1, 2), (1, 1), (2, 1), (2, 0), (1, 0), (1, 1))])

    def test_an_inner_rim_goes_down_first(self):
        ring = of_boxes(2, [(0, 0, 1, 3), (2, 0, 1, 3), (0, 0, 3, 1), (0, 2, 3, 1)])
        outer, inner = ((0, 0), (0, 3), (3, 3), (3, 0)), ((1, 1), (2, 1), (2, 2), (1, 2))
        for by in WAYS:
            self.assertEqual(rims_of(ring, by), [outer, inner])
            self.assertEqual(rim_round(ring, by, 1, 1), inner)
            self.assertEqual(rim_round(ring, by, 0, 0), outer)
            self.assertIsNone(rim_round(ring, by, 3, 3))
        self.assertEqual((held(outer), held(inner)), (9, -1))
        diamond = of_cells(3, [(2, 3), (3, 2), (3, 4), (4, 3)])
        self.assertEqual(rim_round(diamond, "corners", 3, 3), ((3, 3), (4, 3), (4, 4), (3, 4)))
        self.assertIsNone(rim_round(diamond, "sides", 3, 3))

    def test_two_holes_that_have_a_corner_in_common(self):
        block = [(row, column) for row in range(4) for column in range(4)]
        shape = of_cells(2, [cell for cell in block if cell not in ((1, 1), (2, 2))])
        self.assertEqual([held(rim) for rim in rims_of(shape, "corners")], [16, -1, -1])
        self.assertEqual([held(rim) for rim in rims_of(shape, "sides")], [16, -2])
        self.assertEqual(rims_of(shape, "sides")[1],
                         ((1, 1), (2, 1), (2, 2), (3, 2), (3, 3), (2, 3), (2, 2), (1, 2)))


class GreatFloors(unittest.TestCase):
    def made_larger(self, shape, times):
        for _ in range(times):
            shape = larger(shape)
        return shape

    def great_shapes(self):
        shapes = [scattered_shape(12, 666, seed) for seed in (1, 2)] + [scattered_shape(6, 666, 3)]
        shapes += [of_cells(12, stair(320)), of_cells(12, slope(660)), of_cells(12, stair(200, 2000, 1990))]
        shapes += [of_cells(6, snake(64, 30)), of_cells(6, comb(64, 30)), self.made_larger(of_boxes(5, rings(5, 8)), 7)]
        shapes += [with_square(full(12), "12300", scattered_shape(7, 500, 4))]
        shapes += [of_boxes(12, [(0, 0, 4096, 2048), (1024, 2048, 1, 1), (2047, 2048, 1, 2)])]
        return shapes

    def long_by_hand(self, shape):
        """How many cells long all sides are at which a full cell ends."""
        rows = bit_rows(shape)
        level = [above ^ below for above, below in zip([0] + rows, rows + [0])]
        upright = [row ^ row << 1 for row in rows]
        return sum([bin(row).count("1") for row in level + upright])

    def long_of(self, rim):
        nexts = rim[1:] + rim[:1]
        return sum([abs(one[0] - other[0]) + abs(one[1] - other[1]) for one, other in zip(rim, nexts)])

    def turns_each_time(self, rim):
        for one, middle, other in zip(rim, rim[1:] + rim[:1], rim[2:] + rim[:2]):
            self.assertTrue((one[0] == middle[0]) != (one[1] == middle[1]))
            self.assertTrue((one[0] == middle[0]) == (middle[1] == other[1]))

    def test_great_shapes(self):
        for shape in self.great_shapes():
            for by in WAYS:
                told = rims_of(shape, by)
                self.assertEqual(told, sorted(told))
                for rim in told:
                    self.turns_each_time(rim)
                    self.assertEqual((min(rim), rim.count(rim[0])), (rim[0], 1))
                    self.assertEqual(held(rim) > 0, is_outer(rim))
                # They are as long as all sides, and give back the shape: so each side is on one of them, once.
                self.assertEqual(sum([self.long_of(rim) for rim in told]), self.long_by_hand(shape))
                self.assertEqual(of_loops(shape[0], told), shape)
                self.assertEqual(sum([held(rim) for rim in told]), many_cells(shape))
                self.assertLessEqual(sum([len(rim) for rim in told]), 4 * count_leaves(shape[1], shape[2]))
                self.assertEqual(len([rim for rim in told if is_outer(rim)]), len(parts_of(shape, by)))
                self.assertEqual(len([rim for rim in told if not is_outer(rim)]), len(holes_of(shape, by)))

    def test_round(self):
        for shape in (scattered_shape(12, 300, 5), self.made_larger(of_boxes(5, rings(5, 8)), 7)):
            n = shape[0]
            for by in WAYS:
                rims = rims_of(shape, by)
                groups = parts_of(shape, by) + holes_of(shape, by)
                for row, column in scattered_cells(n, 25, 6) + [(0, 0), (2 ** n - 1, 2 ** n - 1)]:
                    told = rim_round(shape, by, row, column)
                    mine = [group for group in groups if number_of_cell(group, row, column) == 1]
                    if not mine:
                        self.assertIsNone(told)
                    else:
                        self.assertIn(told, rims)
                        # What the rim goes round has the whole part or hole in it.
                        inside = of_loops(n, [told])
                        self.assertEqual(joined(inside, mine[0]), inside)
                        self.assertEqual(is_outer(told), number_of_cell(shape, row, column) == 1)

    def test_a_stair(self):
        told = rims_of(of_cells(12, stair(300)), "sides")
        self.assertEqual(len(told), 1)
        self.assertEqual(len(told[0]), 1200)
        self.assertEqual(told[0][:4], ((0, 0), (0, 2), (1, 2), (1, 3)))
        self.assertEqual(told[0][-2:], ((1, 1), (1, 0)))
        self.assertEqual(held(told[0]), 600)


class Refusals(unittest.TestCase):
    def test_no_shape_ahead_of_all(self):
        for thing in no_shapes():
            for by in ("sides", "side", None):
                self.assertIs(refusal_of(rims_of, thing, by), NoShape)
                self.assertIs(refusal_of(rim_round, thing, by, 0, 0), NoShape)
                self.assertIs(refusal_of(rim_round, thing, by, None, -1), NoShape)

    def test_no_way_ahead_of_cells_and_too_many(self):
        for shape in (empty(0), full(3), checkered(12)):
            for thing in odd_things() + ["side", "Sides", "", None, True, ["sides"], ("corners",)]:
                self.assertIs(refusal_of(rims_of, shape, thing), NoWay)
                self.assertIs(refusal_of(rim_round, shape, thing, 0, 0), NoWay)
                self.assertIs(refusal_of(rim_round, shape, thing, -1, None), NoWay)

    def test_no_cell_ahead_of_too_many(self):
        for shape in (empty(0), full(3), checkered(12)):
            for thing in not_whole() + [True, False, -1, 2 ** shape[0], 10 ** 59, "0", (0,), None]:
                for by in WAYS:
                    self.assertIs(refusal_of(rim_round, shape, by, thing, 0), NoCell)
                    self.assertIs(refusal_of(rim_round, shape, by, 0, thing), NoCell)

    def test_the_edge_of_coarse(self):
        for n in (6, 12):
            last, beyond = scattered_shape(n, 666, 1), scattered_shape(n, 667, 1)
            self.assertEqual([count_leaves(shape[1], shape[2]) for shape in (last, beyond)], [1999, 2002])
            for by in WAYS:
                self.assertIsNone(refusal_of(rims_of, last, by))
                self.assertIsNone(refusal_of(rim_round, last, by, 0, 0))
                for shape in (beyond, checkered(12)):
                    self.assertIs(refusal_of(rims_of, shape, by), TooMany)
                    self.assertIs(refusal_of(rim_round, shape, by, 0, 0), TooMany)


class TheAskersOwn(unittest.TestCase):
    def test_a_told_list_has_no_bearing_later(self):
        shape = of_boxes(4, rings(4, 3))
        for by in WAYS:
            told = rims_of(shape, by)
            kept = list(told)
            told.reverse()
            told.pop()
            self.assertEqual(rims_of(shape, by), kept)
        self.assertEqual(shape, of_boxes(4, rings(4, 3)))


if __name__ == "__main__":
    unittest.main()
