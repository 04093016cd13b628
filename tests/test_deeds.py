"""Points 12 and 13: shapes joined, cut, left out, compared; pairs, and how many rows come of deeds."""

import unittest

from quarterfold.deeds import cut, joined, left_out, lies_in, pairs, parting, unlike, without
from quarterfold.errors import NoShape, OtherFloor
from quarterfold.made import of_boxes, of_cells, with_square
from quarterfold.tellings import empty, full, is_shape
from tests.aids import (all_addresses, cells_from_bits, cells_told, checkered, layered_shape, long_shape, no_shapes,
                        number_of_cell, refusal_of, scattered_cells, scattered_shape, shape_by_hand, some_floors)

A = (0, 1, 1, 0)
OF_TWO = (joined, cut, without, unlike, lies_in, parting, pairs)
# The deeds that tell a shape, with what comes of a cell that is full or not in the first and in the second.
DEEDS = ((joined, lambda mine, theirs: mine or theirs), (cut, lambda mine, theirs: mine and theirs),
         (without, lambda mine, theirs: mine and not theirs), (unlike, lambda mine, theirs: mine != theirs))


def every_cell(n):
    return {(row, column) for row in range(2 ** n) for column in range(2 ** n)}


def number_at(shape, address):
    """The number by which a square stands: straight from the words of point 13."""
    number = shape[1]
    for figure in address:
        number = number if number < 2 else shape[2][number - 2][int(figure)]
    return number


def pairs_by_hand(one, other):
    """Each square of the floor looked at, without a thought of what lies alike."""
    found = {(number_at(one, address), number_at(other, address)) for address in all_addresses(one[0])}
    return len([pair for pair in found if min(pair) > 1])


def pairs_size_by_size(one, other):
    """The same for great floors: all tuples of the squares of a size, then of their quarters."""
    found, now = set(), {(one[1], other[1])}
    while now:
        now = {pair for pair in now if min(pair) > 1}
        found |= now
        now = {pair for mine, theirs in now for pair in zip(one[2][mine - 2], other[2][theirs - 2])}
    return len(found)


def great_pairs():
    """Pairs of shapes of great floors, or of many rows."""
    striped = of_boxes(12, [(2 * k, 0, 1, 4096) for k in range(2048)])
    return [(checkered(12), striped), (striped, of_boxes(12, [(5, 7, 3000, 3001)])), (checkered(12), empty(12)),
            (checkered(12), full(12)), (layered_shape(12, 20, 1), layered_shape(12, 20, 2)),
            (layered_shape(12, 30, 3), checkered(12)), (scattered_shape(12, 900, 4), scattered_shape(12, 900, 5)),
            (layered_shape(12, 25, 6), scattered_shape(12, 500, 7)), (long_shape(), long_shape(8)),
            (long_shape(), checkered(7))]


class DeedsCellByCell(unittest.TestCase):
    def check(self, n, cells, other_cells):
        one, other = shape_by_hand(n, cells), shape_by_hand(n, other_cells)
        mine, theirs = set(cells), set(other_cells)
        self.assertEqual(joined(one, other), shape_by_hand(n, mine | theirs))
        self.assertEqual(cut(one, other), shape_by_hand(n, mine & theirs))
        self.assertEqual(without(one, other), shape_by_hand(n, mine - theirs))
        self.assertEqual(unlike(one, other), shape_by_hand(n, mine ^ theirs))
        self.assertIs(lies_in(one, other), mine <= theirs)
        self.check_parting(parting(one, other), mine, theirs)
        self.assertEqual(pairs(one, other), pairs_by_hand(one, other))

    def check_parting(self, cell, mine, theirs):
        if mine == theirs:
            self.assertIsNone(cell)
        else:
            self.assertIsInstance(cell, tuple)
            self.assertIn(cell, mine ^ theirs)

    def test_every_two_shapes_of_sizes_0_and_1(self):
        for n in (0, 1):
            every = [cells_from_bits(n, bits) for bits in range(2 ** 4 ** n)]
            for cells in every:
                for other_cells in every:
                    self.check(n, cells, other_cells)

    def test_some_of_sizes_2_and_3(self):
        for n in (2, 3):
            floors = [cells for size, cells in some_floors() if size == n]
            for at, cells in enumerate(floors):
                other_cells = floors[(at + 7) % len(floors)]
                self.check(n, cells, other_cells)
                self.check(n, other_cells, cells)
                self.check(n, cells, cells)
                self.check(n, [], cells)
                self.check(n, cells, sorted(every_cell(n)))

    def test_one_in_the_other(self):
        for n, cells in some_floors():
            if n > 1:
                self.check(n, cells[::2], cells)
                self.check(n, cells, cells[:-1])

    def test_shapes_with_leaves_of_many_sizes(self):
        for seed in range(12):
            one, other = scattered_shape(5, 30 + seed, seed), scattered_shape(5, 40, seed + 100)
            self.check(5, sorted(cells_told(one)), sorted(cells_told(other)))

    def test_left_out(self):
        for n, cells in some_floors():
            shape = shape_by_hand(n, cells)
            self.assertEqual(left_out(shape), shape_by_hand(n, every_cell(n) - set(cells)))
            self.assertEqual(left_out(left_out(shape)), shape)

    def test_by_hand(self):
        one, other = of_cells(1, [(0, 1), (1, 0)]), of_cells(1, [(0, 0), (0, 1)])
        self.assertEqual(joined(one, other), (1, 2, ((1, 1, 1, 0),)))
        self.assertEqual(cut(one, other), (1, 2, ((0, 1, 0, 0),)))
        self.assertEqual(without(one, other), (1, 2, ((0, 0, 1, 0),)))
        self.assertEqual(without(other, one), (1, 2, ((1, 0, 0, 0),)))
        self.assertEqual(unlike(one, other), (1, 2, ((1, 0, 1, 0),)))
        self.assertEqual(left_out(one), (1, 2, ((1, 0, 0, 1),)))
        self.assertEqual(pairs(one, other), 1)


class PlainFloors(unittest.TestCase):
    def test_of_every_size(self):
        for n in range(13):
            none, every = empty(n), full(n)
            for deed, rule in DEEDS:
                for one, mine in ((none, False), (every, True)):
                    for other, theirs in ((none, False), (every, True)):
                        self.assertEqual(deed(one, other), every if rule(mine, theirs) else none)
            self.assertEqual((left_out(none), left_out(every)), (every, none))
            self.assertEqual([lies_in(none, none), lies_in(none, every), lies_in(every, none), lies_in(every, every)],
                             [True, True, False, True])
            self.assertIsNone(parting(none, none))
            self.assertIsNone(parting(every, every))
            for row, column in (parting(none, every), parting(every, none)):
                self.assertTrue(0 <= row < 2 ** n and 0 <= column < 2 ** n)
            self.assertEqual(pairs(none, every), 0)

    def test_with_any_shape(self):
        for shape in [checkered(12), layered_shape(12, 20, 1), long_shape(), scattered_shape(9, 200, 2)]:
            none, every = empty(shape[0]), full(shape[0])
            self.assertEqual([joined(shape, none), cut(shape, every), without(shape, none), unlike(none, shape),
                              left_out(unlike(shape, every))], [shape] * 5)
            self.assertEqual([without(every, shape), unlike(shape, every)], [left_out(shape)] * 2)
            self.assertEqual([joined(every, shape), cut(none, shape), without(none, shape), without(shape, every)],
                             [every, none, none, none])
            self.assertEqual([lies_in(none, shape), lies_in(shape, every), lies_in(shape, none), lies_in(every, shape)],
                             [True, True, False, False])
            for plain in (none, every):
                self.assertEqual((pairs(shape, plain), pairs(plain, shape)), (0, 0))


class GreatFloors(unittest.TestCase):
    def test_sixteen_million_leaves(self):
        shape = checkered(12)
        left = left_out(shape)
        self.assertEqual(left, (12, 13, ((1, 0, 0, 1),) + shape[2][1:]))
        self.assertEqual(joined(shape, left), full(12))
        self.assertEqual(cut(shape, left), empty(12))
        self.assertEqual(without(shape, left), shape)
        self.assertEqual(unlike(shape, left), full(12))
        self.assertEqual(unlike(shape, shape), empty(12))
        self.assertIs(lies_in(shape, left), False)
        self.assertIs(lies_in(shape, joined(shape, of_boxes(12, [(9, 9, 99, 999)]))), True)
        self.assertIsNone(parting(shape, shape))

    def test_just_one_cell_apart(self):
        for shape in (checkered(12), layered_shape(12, 20, 3)):
            for row, column in [(0, 0), (4095, 4095), (0, 4095), (2047, 2048), (1234, 3210)]:
                was = number_of_cell(shape, row, column)
                address = "".join([str(2 * (row >> k & 1) + (column >> k & 1)) for k in range(11, -1, -1)])
                changed = with_square(shape, address, (0, 1 - was, ()))
                self.assertEqual(parting(shape, changed), (row, column))
                self.assertEqual(parting(changed, shape), (row, column))
                self.assertEqual(unlike(shape, changed), of_cells(12, [(row, column)]))
                self.assertIs(lies_in(shape, changed), was == 0)
                self.assertIs(lies_in(changed, shape), was == 1)

    def test_cells_here_and_there(self):
        for one, other in great_pairs():
            told = [(deed(one, other), rule) for deed, rule in DEEDS]
            left = left_out(one)
            for row, column in scattered_cells(one[0], 200, 9):
                mine, theirs = number_of_cell(one, row, column) == 1, number_of_cell(other, row, column) == 1
                for shape, rule in told:
                    self.assertEqual(number_of_cell(shape, row, column), int(rule(mine, theirs)))
                self.assertEqual(number_of_cell(left, row, column), int(not mine))

    def test_what_is_told_is_a_shape_and_fits_together(self):
        for one, other in great_pairs():
            either, both, rest = joined(one, other), cut(one, other), without(one, other)
            for shape in (either, both, rest, unlike(one, other), left_out(one)):
                self.assertIs(is_shape(shape), True)
                self.assertEqual(shape[0], one[0])
            self.assertEqual([joined(other, one), cut(other, one), unlike(other, one)],
                             [either, both, unlike(one, other)])
            self.assertEqual(joined(rest, both), one)
            self.assertEqual(joined(rest, other), either)
            self.assertEqual(without(either, both), unlike(one, other))
            self.assertEqual(left_out(cut(left_out(one), left_out(other))), either)
            self.assertTrue(lies_in(both, one) and lies_in(both, other) and lies_in(one, either))

    def test_parting_both_ways_round(self):
        for one, other in great_pairs():
            for first, second in ((one, other), (other, one)):
                row, column = parting(first, second)
                self.assertNotEqual(number_of_cell(first, row, column), number_of_cell(second, row, column))
                self.assertTrue({number_of_cell(first, row, column), number_of_cell(second, row, column)} == {0, 1})
            self.assertIsNone(parting(one, one))
            self.assertIsNone(parting(other, other))


class PairsAndRows(unittest.TestCase):
    def test_pairs(self):
        for one, other in great_pairs():
            self.assertLessEqual(pairs(one, other), 8000)
            self.assertEqual(pairs(one, other), pairs_size_by_size(one, other))
            self.assertEqual(pairs(other, one), pairs(one, other))
            self.assertEqual(pairs(one, one), len(one[2]))
            self.assertEqual(pairs(other, other), len(other[2]))
            self.assertIsInstance(pairs(one, other), int)

    def test_pairs_of_some_floors(self):
        for n in (1, 2, 3):
            shapes = [shape_by_hand(n, cells) for size, cells in some_floors() if size == n]
            for one, other in zip(shapes, shapes[1:] + shapes[:1]):
                self.assertEqual(pairs(one, other), pairs_by_hand(one, other))
                self.assertEqual(pairs(other, one), pairs(one, other))
                self.assertEqual(pairs(one, one), len(one[2]))

    def test_one_row_at_several_sizes_is_one(self):
        shape = (3, 4, (A, (2, 0, 0, 0), (2, 3, 0, 0)))
        self.assertTrue(is_shape(shape))
        self.assertEqual(pairs(shape, shape), 3)
        self.assertEqual(pairs(shape, (3, 2, (A,))), 1)

    def check_rows(self, one, other):
        both, rows = pairs(one, other), len(one[2]) + len(other[2])
        for deed in (joined, cut, without):
            self.assertLessEqual(len(deed(one, other)[2]), both + rows)
            self.assertLessEqual(len(deed(other, one)[2]), both + rows)
        self.assertLessEqual(len(unlike(one, other)[2]), both + 2 * rows)

    def test_no_more_rows_than_told(self):
        for one, other in great_pairs():
            self.check_rows(one, other)
        floors = [(n, shape_by_hand(n, cells)) for n, cells in some_floors()]
        for (n, one), (size, other) in zip(floors, floors[1:]):
            if n == size:
                self.check_rows(one, other)

    def test_left_out_has_the_rows_exchanged(self):
        swap = {0: 1, 1: 0}
        for shape in [one for one, other in great_pairs()] + [shape_by_hand(n, cells) for n, cells in some_floors()]:
            n, top, rows = shape
            wanted = tuple([tuple([swap.get(number, number) for number in row]) for row in rows])
            self.assertEqual(left_out(shape), (n, swap.get(top, top), wanted))


class Refusals(unittest.TestCase):
    def test_no_shape_in_either_place(self):
        for thing in no_shapes():
            self.assertIs(refusal_of(left_out, thing), NoShape)
            for deed in OF_TWO:
                for other in (empty(0), full(12), of_cells(1, [(0, 0)]), checkered(4)):
                    self.assertIs(refusal_of(deed, thing, other), NoShape)
                    self.assertIs(refusal_of(deed, other, thing), NoShape)
                self.assertIs(refusal_of(deed, thing, thing), NoShape)
                self.assertIs(refusal_of(deed, thing, None), NoShape)

    def test_other_floor(self):
        for deed in OF_TWO:
            for one, other in [(empty(0), empty(1)), (full(12), full(11)), (checkered(3), checkered(4)),
                               ((1, 2, (A,)), (2, 2, (A,))), (checkered(12), empty(0)), (empty(5), checkered(6))]:
                self.assertIs(refusal_of(deed, one, other), OtherFloor)
                self.assertIs(refusal_of(deed, other, one), OtherFloor)

    def test_not_refused_for_many_leaves(self):
        for deed in OF_TWO:
            self.assertIsNone(refusal_of(deed, checkered(12), layered_shape(12, 20, 1)))
        self.assertIsNone(refusal_of(left_out, checkered(12)))


class TheSameAgain(unittest.TestCase):
    def test_asked_again_it_is_alike(self):
        for one, other in great_pairs()[3:8]:
            first = [deed(one, other) for deed in OF_TWO] + [left_out(one)]
            refusal_of(joined, one, None)
            backwards = [deed(other, one) for deed in OF_TWO]
            self.assertEqual([deed(one, other) for deed in OF_TWO] + [left_out(one)], first)
            self.assertEqual([deed(other, one) for deed in OF_TWO], backwards)


if __name__ == "__main__":
    unittest.main()
