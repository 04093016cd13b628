"""Points 19 and 20: parts and holes, how they lie in one another, and shapes filled."""

import sys
import unittest

from quarterfold.deeds import cut, joined, lies_in
from quarterfold.errors import NoShape, NoWay, TooMany
from quarterfold.floors import box_of
from quarterfold.leaves import count_leaves, leaves_of
from quarterfold.made import of_boxes, of_cells, with_square
from quarterfold.parts import filled, holes_of, nest, parts_of
from quarterfold.scales import larger
from quarterfold.tellings import empty, full, is_shape
from tests.aids import (cells_from_bits, cells_told, checkered, comb, holes_by_hand, layered_shape, no_shapes,
                        number_of_cell, odd_things, parts_by_hand, refusal_of, rings, scattered, scattered_shape,
                        shape_by_hand, slope, snake, some_floors, stair)

WAYS = ("sides", "corners")
DEEDS = (parts_of, holes_of, nest, filled)
NO_WAYS = odd_things() + ["side", "Sides", "SIDES", "corner", "sides ", " sides", "sidescorners", "sidescorner", "s",
                          "", None, True, False, ["sides"], ("sides",), ("sides", "corners"), b"sides", 0, 1]


def place_of(groups, cell):
    """The place of the group that has the cell, None where none has it."""
    found = [place for place, group in enumerate(groups) if cell in group]
    return found[0] if found else None


def nest_by_hand(parts, holes):
    firsts = [min(part) for part in parts], [min(hole) for hole in holes]
    lefts = [[(row, column - 1) for row, column in cells] for cells in firsts]
    return ([place_of(holes, cell) for cell in lefts[0]], [place_of(parts, cell) for cell in lefts[1]])


def many_leaves(shape):
    return count_leaves(shape[1], shape[2])


def made_larger(shape, times):
    for _ in range(times):
        shape = larger(shape)
    return shape


def first_of(shape):
    """The first full cell, from the leaves."""
    return min([box_of(shape[0], address)[:2] for address, is_leaf_full in leaves_of(shape) if is_leaf_full])


def small_floors():
    """Many floors of sizes 0 to 4: pairs of a size and a list of cells."""
    floors = some_floors() + [(2, cells_from_bits(2, bits % 2 ** 16)) for bits in scattered(300, 7)]
    # More full than empty, so that there are holes.
    wide = scattered(240, 8)
    for k in range(0, 240, 4):
        floors.append((3, cells_from_bits(3, (wide[k] << 32 | wide[k + 1]) | (wide[k + 2] << 32 | wide[k + 3]))))
    for seed in range(12):
        floors.append((4, sorted(cells_told(scattered_shape(4, 25 + 3 * seed, seed)))))
    floors += [(3, sorted(cells_told(of_boxes(3, rings(3, 2))))), (4, sorted(cells_told(of_boxes(4, rings(4, 4)))))]
    return floors


class CellByCell(unittest.TestCase):
    def check(self, n, cells):
        shape = shape_by_hand(n, cells)
        for by in WAYS:
            parts, holes = parts_by_hand(cells, by), holes_by_hand(n, cells, by)
            self.assertEqual(parts_of(shape, by), [shape_by_hand(n, part) for part in parts])
            self.assertEqual(holes_of(shape, by), [shape_by_hand(n, hole) for hole in holes])
            self.assertEqual(nest(shape, by), nest_by_hand(parts, holes))
            self.assertEqual(filled(shape, by), shape_by_hand(n, set(cells).union(*holes)))

    def test_small_floors(self):
        for n, cells in small_floors():
            self.check(n, cells)

    def test_every_floor_of_size_1(self):
        for bits in range(16):
            self.check(1, cells_from_bits(1, bits))

    def test_every_part_and_hole_of_four_by_four(self):
        # All that can stand around one empty cell: holes by one way and not by the other.
        around = [(row, column) for row in range(3) for column in range(3) if (row, column) != (1, 1)]
        for bits in range(256):
            self.check(2, [cell for at, cell in enumerate(around) if bits >> at & 1])

    def test_the_lists_are_lists(self):
        shape = of_boxes(3, rings(3, 2))
        for by in WAYS:
            self.assertIs(type(parts_of(shape, by)), list)
            self.assertIs(type(holes_of(shape, by)), list)
            told = nest(shape, by)
            self.assertEqual([type(told), type(told[0]), type(told[1])], [tuple, list, list])
            self.assertEqual(len(told), 2)


class ByHand(unittest.TestCase):
    def test_plain_floors(self):
        for n in range(13):
            for by in WAYS:
                self.assertEqual(parts_of(empty(n), by), [])
                self.assertEqual(holes_of(empty(n), by), [])
                self.assertEqual(nest(empty(n), by), ([], []))
                self.assertEqual(filled(empty(n), by), empty(n))
                self.assertEqual(parts_of(full(n), by), [full(n)])
                self.assertEqual(holes_of(full(n), by), [])
                self.assertEqual(nest(full(n), by), ([None], []))
                self.assertEqual(filled(full(n), by), full(n))

    def test_a_corner_alone_in_common(self):
        for one, other in (((0, 0), (1, 1)), ((0, 1), (1, 0))):
            shape = of_cells(1, [one, other])
            self.assertEqual(parts_of(shape, "sides"), [of_cells(1, [one]), of_cells(1, [other])])
            self.assertEqual(parts_of(shape, "corners"), [shape])
        # Great leaves beside small ones.
        shape = of_boxes(12, [(0, 0, 2048, 2048), (2048, 2048, 1, 1)])
        self.assertEqual(len(parts_of(shape, "sides")), 2)
        self.assertEqual(parts_of(shape, "corners"), [shape])
        shape = of_boxes(12, [(2048, 0, 2048, 2048), (2047, 2048, 1, 1)])
        self.assertEqual(parts_of(shape, "sides"),
                         [of_cells(12, [(2047, 2048)]), of_boxes(12, [(2048, 0, 2048, 2048)])])
        self.assertEqual(parts_of(shape, "corners"), [shape])

    def test_two_empty_cells_with_a_corner_alone_in_common(self):
        block = [(row, column) for row in range(1, 7) for column in range(1, 7)]
        shape = of_cells(3, [cell for cell in block if cell not in ((3, 3), (4, 4))])
        self.assertEqual(holes_of(shape, "sides"), [of_cells(3, [(3, 3), (4, 4)])])
        self.assertEqual(holes_of(shape, "corners"), [of_cells(3, [(3, 3)]), of_cells(3, [(4, 4)])])
        self.assertEqual(nest(shape, "sides"), ([None], [0]))
        self.assertEqual(nest(shape, "corners"), ([None], [0, 0]))

    def test_a_hole_that_comes_out_at_a_corner(self):
        diamond = of_cells(3, [(2, 3), (3, 2), (3, 4), (4, 3)])
        self.assertEqual(holes_of(diamond, "corners"), [of_cells(3, [(3, 3)])])
        self.assertEqual(holes_of(diamond, "sides"), [])
        self.assertEqual(filled(diamond, "sides"), diamond)
        self.assertEqual(filled(diamond, "corners"), of_cells(3, [(2, 3), (3, 2), (3, 3), (3, 4), (4, 3)]))
        # The floor's corner is where it comes out: the cell (0, 0) touches (1, 1) by a corner.
        block = of_cells(2, [(row, column) for row in range(3) for column in range(3) if (row, column) not in
                             ((0, 0), (1, 1))])
        self.assertEqual(holes_of(block, "corners"), [of_cells(2, [(1, 1)])])
        self.assertEqual(holes_of(block, "sides"), [])

    def test_no_hole_at_the_floors_edge(self):
        for n in (3, 12):
            side = 2 ** n
            for row, column in ((0, 3), (side - 1, 3), (3, 0), (3, side - 1), (0, 0), (side - 1, side - 1)):
                # The edge closes the cell in, but its part is the floor but for that cell.
                cell = of_cells(n, [(row, column)])
                shape = with_square(full(n), leaf_address(n, row, column), empty(0))
                self.assertEqual(joined(cell, shape), full(n))
                for by in WAYS:
                    self.assertEqual(holes_of(shape, by), [])
                    self.assertEqual(filled(shape, by), shape)
        for row, column in ((1, 1), (4094, 4094), (1, 4094), (2047, 2048)):
            shape = with_square(full(12), leaf_address(12, row, column), empty(0))
            for by in WAYS:
                self.assertEqual(holes_of(shape, by), [of_cells(12, [(row, column)])])
                self.assertEqual(nest(shape, by), ([None], [0]))
                self.assertEqual(filled(shape, by), full(12))

    def test_the_order_is_that_of_first_cells(self):
        # Addresses are in another order: "0..." ahead of "1...", but the cell (0, 5) ahead of (1, 0).
        shape = of_cells(3, [(0, 5), (1, 0), (7, 7), (3, 3), (3, 5)])
        self.assertEqual(parts_of(shape, "sides"), [of_cells(3, [cell]) for cell in
                                                    ((0, 5), (1, 0), (3, 3), (3, 5), (7, 7))])
        # The first cell counts, not the first column of the part.
        shape = of_boxes(12, [(0, 3968, 640, 64), (512, 0, 128, 4000), (256, 256, 64, 128), (128, 4095, 1, 1)])
        firsts = [first_of(part) for part in parts_of(shape, "sides")]
        self.assertEqual(firsts, [(0, 3968), (128, 4095), (256, 256)])


def leaf_address(n, row, column):
    return "".join([str(2 * (row >> k & 1) + (column >> k & 1)) for k in range(n - 1, -1, -1)])


class Nested(unittest.TestCase):
    def test_rings_within_rings(self):
        for n, many in ((3, 2), (4, 4), (5, 8)):
            shape = of_boxes(n, rings(n, many))
            for larger_by in (0, 12 - n):
                great = made_larger(shape, larger_by)
                for by in WAYS:
                    told = nest(great, by)
                    # Holes and rings by turns: the innermost hole has no part.
                    self.assertEqual(told, ([None] + list(range(many - 1)), list(range(many))))
                    self.assertEqual(len(parts_of(great, by)), many)
                    self.assertEqual(filled(great, by), full(great[0]))

    def test_two_holes_in_one_part_and_two_parts_in_one_hole(self):
        frame = [(0, 0, 1, 16), (15, 0, 1, 16), (0, 0, 16, 1), (0, 15, 16, 1)]
        shape = of_boxes(4, frame + [(0, 7, 16, 1), (3, 2, 2, 2), (3, 5, 1, 1), (10, 3, 3, 1), (9, 10, 1, 1)])
        for by in WAYS:
            self.assertEqual(nest(shape, by), ([None, 0, 0, 1, 0], [0, 0]))
        # Within a part in a hole there is another hole, and beside the outer part another outer one.
        shape = of_boxes(4, [(0, 0, 1, 9), (8, 0, 1, 9), (0, 0, 9, 1), (0, 8, 9, 1), (2, 2, 1, 3), (4, 2, 1, 3),
                             (3, 2, 1, 1), (3, 4, 1, 1), (2, 6, 1, 1), (12, 3, 2, 2), (0, 12, 1, 1)])
        for by in WAYS:
            self.assertEqual(nest(shape, by), ([None, None, 0, 0, None], [0, 2]))
        self.assertEqual(filled(shape, "sides"), of_boxes(4, [(0, 0, 9, 9), (12, 3, 2, 2), (0, 12, 1, 1)]))

    def test_a_part_at_the_edge_is_an_outer_one(self):
        shape = of_boxes(3, [(0, 0, 1, 1), (0, 4, 1, 1), (4, 0, 1, 1), (7, 7, 1, 1), (3, 7, 1, 1), (7, 3, 1, 1)])
        for by in WAYS:
            self.assertEqual(nest(shape, by), ([None] * 6, []))
        # Shut in by the floor's edge and another part: no hole has it.
        shape = of_boxes(3, [(0, 3, 4, 1), (3, 0, 1, 4), (1, 1, 1, 1)])
        for by in WAYS:
            self.assertEqual(nest(shape, by), ([None, None], []))


class WholeFloors(unittest.TestCase):
    """On great floors what is told of parts, holes, nest and filled bears one another out."""

    def great_shapes(self):
        shapes = [scattered_shape(12, 666, 0)] + [scattered_shape(12, 60, 4)]
        shapes += [scattered_shape(6, 666, 1), of_cells(12, slope(660))]
        shapes += [of_cells(12, stair(300, 1900, 2040) + slope(40, 5, 5))]
        shapes += [of_cells(6, snake(64, 30)), of_cells(6, comb(64, 30)), made_larger(of_cells(5, snake(32, 32)), 7)]
        shapes += [with_square(full(12), "2103012", of_cells(5, comb(32, 32)))]
        shapes += [made_larger(of_boxes(5, rings(5, 8)), 7)]
        # Rings of unlike thickness around a cell, and leaves from a cell to a quarter of the floor.
        shapes += [of_boxes(12, [(0, 0, 4096, 512), (0, 3584, 4096, 512), (0, 0, 512, 4096), (3584, 0, 512, 4096),
                                 (1024, 1024, 2048, 64), (1024, 3008, 2048, 64), (1024, 1024, 64, 2048),
                                 (3008, 1024, 64, 2048), (2040, 2040, 16, 1), (2040, 2055, 16, 1),
                                 (2040, 2040, 1, 16), (2055, 2040, 1, 16), (2047, 2048, 1, 1)])]
        return shapes

    def check_lists(self, shape, by):
        parts, holes = parts_of(shape, by), holes_of(shape, by)
        for told in (parts, holes):
            self.assertTrue(all([is_shape(one) and one[0] == shape[0] for one in told]))
            firsts = [first_of(one) for one in told]
            self.assertEqual(firsts, sorted(firsts))
        # The leaves of the shape are shared out among the parts: none twice, none left.
        cells = {address: is_leaf_full for address, is_leaf_full in leaves_of(shape)}
        shared = [address for part in parts for address, is_leaf_full in leaves_of(part) if is_leaf_full]
        self.assertTrue(all([self.lies_within(address, cells, True) for address in shared]))
        self.assertEqual(self.area(shape[0], shared), self.area(shape[0], [a for a in cells if cells[a]]))
        self.assertEqual(len(set(shared)), len(shared))
        self.check_edges(holes)
        for hole in holes[:20]:
            self.assertEqual(cut(hole, shape), empty(shape[0]))
        for part in parts[:20]:
            self.assertTrue(lies_in(part, shape))
        return parts, holes

    def lies_within(self, address, cells, wanted):
        return any([cells.get(address[:k]) is wanted for k in range(len(address) + 1)])

    def area(self, n, addresses):
        return sum([4 ** (n - len(address)) for address in addresses])

    def check_edges(self, holes):
        for hole in holes:
            for address, is_leaf_full in leaves_of(hole):
                row, column, side = box_of(hole[0], address)
                if is_leaf_full:
                    self.assertGreater(min(row, column), 0)
                    self.assertLess(max(row, column) + side, 2 ** hole[0])

    def check_nest(self, shape, by, parts, holes):
        in_holes, in_parts = nest(shape, by)
        self.assertEqual((len(in_holes), len(in_parts)), (len(parts), len(holes)))
        for hole, place in zip(holes, in_parts):
            row, column = first_of(hole)
            self.assertEqual(number_of_cell(parts[place], row, column - 1), 1)
        for part, place in zip(parts, in_holes):
            row, column = first_of(part)
            if place is not None:
                self.assertEqual(number_of_cell(holes[place], row, column - 1), 1)
            elif column > 0:
                self.assertEqual({number_of_cell(hole, row, column - 1) for hole in holes} - {0}, set())
        for place in range(len(parts)):
            self.assertTrue(self.goes_out(place, in_holes, in_parts))
        return in_holes.count(None)

    def goes_out(self, place, in_holes, in_parts):
        for _ in range(len(in_holes) + 1):
            if in_holes[place] is None:
                return True
            place = in_parts[in_holes[place]]
        return False

    def test_great_shapes(self):
        most_holes = 0
        for shape in self.great_shapes():
            self.assertLessEqual(many_leaves(shape), 2000)
            for by in WAYS:
                parts, holes = self.check_lists(shape, by)
                most_holes = max(most_holes, len(holes))
                outer = self.check_nest(shape, by, parts, holes)
                told = filled(shape, by)
                self.assertTrue(is_shape(told))
                self.assertTrue(lies_in(shape, told))
                for hole in holes[:20]:
                    self.assertTrue(lies_in(hole, told))
                if many_leaves(told) <= 2000:
                    self.assertEqual(holes_of(told, by), [])
                    self.assertEqual(len(parts_of(told, by)), outer)
                    self.assertEqual(filled(told, by), told)
        self.assertGreater(most_holes, 50)

    def test_parts_joined_are_the_shape(self):
        for shape in (scattered_shape(12, 60, 4), scattered_shape(6, 200, 2), of_boxes(5, rings(5, 8))):
            for by in WAYS:
                parts = parts_of(shape, by)
                together = empty(shape[0])
                for part in parts:
                    self.assertEqual(cut(part, together), empty(shape[0]))
                    together = joined(part, together)
                self.assertEqual(together, shape)

    def test_long_thin_ones_without_a_long_recursion(self):
        snakes = [(of_cells(6, snake(64, 30)), 1, 1), (of_cells(12, stair(328)), 1, 1),
                  (of_cells(12, slope(660)), 660, 1), (of_cells(6, comb(64, 30)), 1, 1)]
        before = sys.getrecursionlimit()
        depth = len(frames_here())
        try:
            sys.setrecursionlimit(depth + 60)
            told = [[len(parts_of(shape, by)) for by in WAYS] for shape, by_sides, by_corners in snakes]
        finally:
            sys.setrecursionlimit(before)
        self.assertEqual(told, [[by_sides, by_corners] for shape, by_sides, by_corners in snakes])


def frames_here():
    frame, frames = sys._getframe(), []
    while frame:
        frames.append(frame)
        frame = frame.f_back
    return frames


class Refusals(unittest.TestCase):
    def test_no_shape_ahead_of_all(self):
        for thing in no_shapes():
            for by in ("sides", "corners", "side", None):
                for deed in DEEDS:
                    self.assertIs(refusal_of(deed, thing, by), NoShape)

    def test_no_way_ahead_of_too_many(self):
        for shape in (empty(0), full(3), of_cells(3, [(1, 1)]), checkered(12)):
            for thing in NO_WAYS:
                for deed in DEEDS:
                    self.assertIs(refusal_of(deed, shape, thing), NoWay)

    def test_the_edge_of_coarse(self):
        for n in (6, 12):
            last, beyond = scattered_shape(n, 666, 1), scattered_shape(n, 667, 1)
            self.assertEqual((many_leaves(last), many_leaves(beyond)), (1999, 2002))
            for by in WAYS:
                for deed in DEEDS:
                    self.assertIsNone(refusal_of(deed, last, by))
                    self.assertIs(refusal_of(deed, beyond, by), TooMany)
                    self.assertIs(refusal_of(deed, checkered(12), by), TooMany)
                    self.assertIs(refusal_of(deed, layered_shape(12, 40, 1), by), TooMany)


class TheAskersOwn(unittest.TestCase):
    def test_told_lists_have_no_bearing_later(self):
        shape = of_boxes(4, rings(4, 3))
        before = (shape[0], shape[1], tuple(shape[2]))
        for by in WAYS:
            for deed in (parts_of, holes_of):
                first = deed(shape, by)
                kept = list(first)
                self.assertEqual(len(first), 3)
                first.reverse()
                first.pop()
                self.assertEqual(deed(shape, by), kept)
            told = nest(shape, by)
            told[0].clear()
            told[1].append("9")
            self.assertEqual(nest(shape, by), ([None, 0, 1], [0, 1, 2]))
            self.assertEqual(filled(shape, by), full(4))
        self.assertEqual(shape, before)


if __name__ == "__main__":
    unittest.main()
