"""Points 6 and 7: tellings and shapes; with point 2 for what is handed in; of point 4 the one telling."""

import itertools
import unittest

from quarterfold.errors import NoFloor
from quarterfold.tellings import empty, full, is_shape, is_telling
from tests.aids import (Prickly, cells_from_bits, cells_told, checkered, long_shape, odd_things,
                        shape_by_hand, some_floors)

A = (0, 1, 1, 0)
B = (2, 1, 0, 2)
ZEROS = (0, 0, 0, 0)
ONES = (1, 1, 1, 1)


def deep_rows(many):
    """So many rows, each one deeper than the one before it."""
    return tuple([A] + [(k + 1, 0, 0, 1) for k in range(1, many)])


class Aided(unittest.TestCase):
    def answer(self, asked, thing, wanted):
        self.assertIs(asked(thing), wanted)
        self.assertIs(asked(thing), wanted)


class IsTelling(Aided):
    def test_tellings(self):
        for telling in [
            (0, 0, ()), (0, 1, ()), (12, 0, ()), (12, 1, ()),
            (1, 2, (A,)), (1, 0, (A,)), (1, 1, (A,)), (0, 1, (A,)),
            (2, 3, (A, B)), (2, 2, (A, B)), (1, 2, (A, B)),
            (1, 2, (ZEROS,)), (1, 2, (ONES,)), (1, 3, (A, A)),
            (12, 13, deep_rows(12)), (12, 4, (A, A, (2, 3, 2, 3))),
        ]:
            with self.subTest(telling=telling):
                self.answer(is_telling, telling, True)

    def test_numbers_of_the_row_itself_or_of_a_later_one(self):
        for at in range(4):
            for number in (2, 3, 4, 10 ** 50):
                row = [0, 1, 1, 0]
                row[at] = number
                self.answer(is_telling, (3, 2, (tuple(row), A)), False)
            row = [0, 1, 1, 0]
            row[at] = 2
            self.answer(is_telling, (3, 3, (A, tuple(row))), True)
            row[at] = 3
            self.answer(is_telling, (3, 3, (A, tuple(row))), False)

    def test_top_of_no_row(self):
        self.answer(is_telling, (3, 2, ()), False)
        self.answer(is_telling, (3, 3, (A,)), False)
        self.answer(is_telling, (3, 4, (A, B)), False)
        self.answer(is_telling, (3, 10 ** 50, (A, B)), False)

    def test_numbers_below_nought(self):
        self.answer(is_telling, (3, -1, (A,)), False)
        self.answer(is_telling, (-1, 0, ()), False)
        for at in range(4):
            row = [0, 1, 1, 0]
            row[at] = -1
            self.answer(is_telling, (3, 2, (tuple(row),)), False)

    def test_true_and_false_are_no_numbers(self):
        for telling in [(True, 0, ()), (False, 0, ()), (0, True, ()), (0, False, ()),
                        (1, 2, ((0, 1, 1, False),)), (1, 2, ((0, True, 1, 0),))]:
            self.answer(is_telling, telling, False)

    def test_rows_of_other_lengths(self):
        for row in [(), (0,), (0, 1, 1), (0, 1, 1, 0, 1)]:
            self.answer(is_telling, (3, 2, (row,)), False)
            self.answer(is_telling, (3, 2, (A, row)), False)

    def test_lists_for_tuples(self):
        for thing in [[1, 2, (A,)], (1, 2, [A]), (1, 2, (list(A),)), [0, 0, ()], (0, 0, []), (2, 3, (A, list(B)))]:
            self.answer(is_telling, thing, False)

    def test_other_lengths(self):
        for thing in [(), (0,), (0, 0), (0, 0, (), ()), ((0, 0, ()),)]:
            self.answer(is_telling, thing, False)

    def test_sizes_that_are_none(self):
        for n in [-1, 13, True, None, "1", (1,), [1]] + odd_things():
            self.answer(is_telling, (n, 0, ()), False)

    def test_top_too_deep(self):
        for n in range(12):
            self.answer(is_telling, (n, n + 1, deep_rows(12)), True)
            self.answer(is_telling, (n, n + 2, deep_rows(12)), False)
        self.answer(is_telling, (12, 14, deep_rows(13)), False)

    def test_the_greatest_depth_of_the_quarters_counts(self):
        for row in itertools.permutations([0, 1, 2, 4]):
            rows = (A, B, (0, 3, 0, 0), row)
            self.answer(is_telling, (4, 5, rows), True)
            self.answer(is_telling, (3, 5, rows), False)

    def test_depth_is_that_of_the_rows_even_where_all_is_plain(self):
        self.answer(is_telling, (1, 3, (ZEROS, (2, 2, 2, 2))), False)
        self.answer(is_telling, (2, 3, (ZEROS, (2, 2, 2, 2))), True)

    def test_other_rows_may_be_deeper(self):
        self.answer(is_telling, (0, 1, deep_rows(5)), True)
        self.answer(is_telling, (2, 3, deep_rows(20)), True)

    def test_rows_a_thousand_deep(self):
        for many in (1000, 1100):
            rows = deep_rows(many)
            self.answer(is_telling, (12, 13, rows), True)
            self.answer(is_telling, (12, 14, rows), False)
            self.answer(is_telling, (12, many + 1, rows), False)
            self.answer(is_telling, (0, 1, rows), True)

    def test_anything(self):
        for thing in odd_things():
            self.answer(is_telling, thing, False)
            self.answer(is_telling, (1, thing, (A,)), False)
            self.answer(is_telling, (1, 2, (thing,)), False)
            self.answer(is_telling, (1, 2, ((0, 1, thing, 0),)), False)
            if not isinstance(thing, tuple) or len(thing) > 0:
                self.answer(is_telling, (1, 0, thing), False)


class IsShape(Aided):
    def test_shapes(self):
        for shape in [
            (0, 0, ()), (0, 1, ()), (12, 0, ()), (12, 1, ()), (1, 2, (A,)), (12, 2, (A,)), (2, 3, (A, B)),
            (2, 5, ((0, 0, 0, 1), (0, 0, 1, 0), (0, 1, 0, 0), (2, 3, 4, 2))),
            (12, 13, deep_rows(12)), checkered(1), checkered(12), long_shape(),
        ]:
            with self.subTest(n=shape[0], many=len(shape[2])):
                self.answer(is_telling, shape, True)
                self.answer(is_shape, shape, True)

    def test_two_rows_alike(self):
        self.answer(is_shape, (2, 4, (A, A, (2, 3, 0, 0))), False)
        self.answer(is_shape, (2, 4, (A, (1, 0, 0, 1), (2, 3, 0, 0))), True)

    def test_plain_rows(self):
        for plain in (ZEROS, ONES):
            self.answer(is_shape, (1, 2, (plain,)), False)
            self.answer(is_shape, (2, 3, (plain, (2, 0, 1, 0))), False)
        self.answer(is_shape, (2, 3, (A, (2, 2, 2, 2))), True)

    def test_rows_that_nothing_uses(self):
        self.answer(is_shape, (2, 3, (A, (1, 0, 0, 1))), False)
        self.answer(is_shape, (2, 4, (A, (1, 0, 0, 1), (2, 0, 0, 0))), False)
        self.answer(is_shape, (2, 4, ((1, 0, 0, 1), A, (3, 0, 0, 0))), False)

    def test_rows_in_another_order(self):
        one, two = (0, 0, 0, 1), (0, 0, 1, 0)
        self.answer(is_shape, (2, 4, (one, two, (2, 3, 0, 0))), True)
        self.answer(is_shape, (2, 4, (two, one, (3, 2, 0, 0))), False)
        self.answer(is_shape, (2, 4, (one, two, (3, 2, 0, 0))), False)
        # A row ends when its quarters have: the deeper first quarter ends ahead of the second.
        self.answer(is_shape, (3, 5, (one, (2, 0, 0, 0), two, (3, 4, 0, 0))), True)
        self.answer(is_shape, (3, 5, (one, two, (2, 0, 0, 0), (4, 3, 0, 0))), False)

    def test_just_one_order_of_all_is_the_shape(self):
        n, top, rows = shape_by_hand(3, [(0, 0), (0, 3), (5, 1), (6, 6), (7, 6)])
        found = []
        for order in itertools.permutations(range(len(rows))):
            numbers = {0: 0, 1: 1}
            numbers.update({place + 2: at + 2 for at, place in enumerate(order)})
            thing = (n, numbers[top], tuple([tuple([numbers[q] for q in rows[place]]) for place in order]))
            if is_shape(thing):
                found.append(thing)
        self.assertEqual(found, [(n, top, rows)])

    def test_top_stands_for_no_last_row(self):
        self.answer(is_shape, (2, 2, (A, B)), False)
        self.answer(is_shape, (2, 2, ((0, 0, 0, 1), (0, 0, 1, 0))), False)

    def test_rows_beside_a_plain_top(self):
        for top in (0, 1):
            self.answer(is_shape, (2, top, (A,)), False)
            self.answer(is_shape, (2, top, (A, B)), False)
            self.answer(is_shape, (0, top, deep_rows(1000)), False)

    def test_no_telling_is_no_shape(self):
        for thing in odd_things() + [
            [1, 2, (A,)], (1, 2, [A]), (1, 2, (list(A),)), (1, True, ()), (True, 1, ()), (13, 1, ()), (-1, 0, ()),
            (0, 2, (A,)), (1, 3, (A, B)), (1, 3, (A,)), (1, 2, ((0, 1, 1, 2),)), (1, 2, ((0, 1, 1),)),
            (1, 2, ((0, 1, 1, False),)), (12, 14, deep_rows(13)), (12, 1001, deep_rows(1000)),
        ]:
            self.answer(is_shape, thing, False)

    def test_deep_rows_below_no_top(self):
        self.answer(is_shape, (12, 13, deep_rows(1000)), False)

    def test_full_cells_have_just_one_shape(self):
        seen = {}
        for n, cells in some_floors():
            shape = shape_by_hand(n, cells)
            self.answer(is_shape, shape, True)
            self.assertEqual(cells_told(shape), set(cells))
            self.assertEqual(seen.setdefault(shape, (n, cells)), (n, cells))

    def test_all_small_tellings_that_are_shapes(self):
        # Of all tellings of at most two rows on a floor of size 1 or 2, one is a shape for each set of cells.
        for n in (1, 2):
            told = {}
            for telling in small_tellings(n):
                wanted = telling == shape_by_hand(n, cells_told(telling))
                self.assertIs(is_shape(telling), wanted)
                if wanted:
                    told.setdefault(frozenset(cells_told(telling)), []).append(telling)
            self.assertTrue(all([len(same) == 1 for same in told.values()]))
        self.assertEqual(len([1 for telling in small_tellings(1) if is_shape(telling)]), 16)


def small_tellings(n):
    ones = list(itertools.product(range(2), repeat=4))
    found = [(n, top, rows) for rows in [()] + [(row,) for row in ones] for top in range(2 + len(rows))]
    for row in ones[::3]:
        for other in itertools.product(range(3), repeat=4):
            found.extend([(n, top, (row, other)) for top in range(4)])
    return [telling for telling in found if is_telling(telling)]


class EmptyAndFull(Aided):
    def test_each_size(self):
        for n in range(13):
            self.assertEqual(empty(n), (n, 0, ()))
            self.assertEqual(full(n), (n, 1, ()))
            self.answer(is_shape, empty(n), True)
            self.answer(is_shape, full(n), True)
        self.assertEqual(cells_told(empty(2)), set())
        self.assertEqual(cells_told(full(2)), set(cells_from_bits(2, 2 ** 16 - 1)))

    def test_no_floor(self):
        for n in [-1, 13, True, False, None, "3", [3], (3,), 10 ** 50] + odd_things():
            with self.assertRaises(NoFloor):
                empty(n)
            with self.assertRaises(NoFloor):
                full(n)


class HandedIn(Aided):
    def test_lists_stay_as_they_were(self):
        thing = [1, 2, [[0, 1, 1, 0]]]
        self.answer(is_telling, thing, False)
        self.answer(is_shape, thing, False)
        with self.assertRaises(NoFloor):
            empty(thing)
        self.assertEqual(thing, [1, 2, [[0, 1, 1, 0]]])

    def test_a_list_that_changes_between_two_askings(self):
        rows = [A]
        self.answer(is_telling, (1, 2, rows), False)
        rows.clear()
        self.answer(is_telling, (1, 2, rows), False)
        self.answer(is_telling, (1, 2, (A,)), True)

    def test_things_that_cannot_be_compared(self):
        for thing in [Prickly(), (Prickly(), 0, ()), (0, Prickly(), ()), (0, 0, Prickly()), (0, 0, (Prickly(),)),
                      (1, 2, ((Prickly(), 0, 0, 0),))]:
            self.answer(is_telling, thing, False)
            self.answer(is_shape, thing, False)


if __name__ == "__main__":
    unittest.main()
