"""Point 9: steps from a telling to its shape; of point 4 that each order of them leads there."""

import itertools
import unittest

from quarterfold.errors import NoStep, NoTelling
from quarterfold.steps import one_telling, stepped, steps_of
from quarterfold.tellings import empty, full, is_shape, is_telling
from tests.aids import Prickly, cells_told, checkered, long_shape, odd_things, scattered, shape_by_hand, some_floors

A = (0, 1, 1, 0)
ZEROS = (0, 0, 0, 0)
ONES = (1, 1, 1, 1)

TELLINGS = [
    # two rows alike
    (2, 4, (A, A, (2, 3, 0, 0))),
    # three rows alike
    (2, 5, (A, A, A, (2, 3, 4, 1))),
    # plain rows, and a row that is plain behind a step
    (2, 4, (ZEROS, ONES, (2, 3, 0, 1))),
    (4, 5, (ONES, (2, 1, 1, 2), (0, 0, 3, 0), (4, 4, 3, 2))),
    (2, 3, (ZEROS, (2, 2, 0, 0))),
    # two plain rows that are alike
    (1, 3, (ONES, ONES)),
    # rows that nothing stands for, upon one another
    (2, 2, (A, (2, 0, 0, 0), (3, 3, 0, 0))),
    (0, 1, (A, A, ZEROS, (4, 0, 0, 0))),
    # a top that stands for a row in the middle
    (2, 4, (A, (1, 0, 0, 1), (2, 3, 3, 2), (4, 2, 2, 3), (1, 0, 0, 1))),
    # rows that are alike behind steps only
    (2, 7, (A, A, (2, 0, 0, 3), (3, 0, 0, 2), (0, 0, 0, 1), (2, 3, 6, 6))),
    (4, 7, (A, A, (2, 0, 0, 3), (3, 0, 0, 2), (4, 5, 4, 5), (6, 4, 5, 6))),
    # a shape in another order
    (2, 4, ((0, 0, 1, 0), (0, 0, 0, 1), (3, 2, 0, 0))),
]


def made_tellings():
    """Tellings of some rows whose numbers look scattered."""
    found = []
    for seed in range(40):
        numbers = scattered(40, seed)
        rows = [tuple([number % (2 + min(place, 3)) for number in numbers[4 * place:4 * place + 4]])
                for place in range(6)]
        found.extend([(3, top, tuple(rows)) for top in range(8) if is_telling((3, top, tuple(rows)))])
    return found


def row_sets(telling):
    """The cells of each row of a telling, as if it were the top of a floor of the same size."""
    n, top, rows = telling
    return sorted([sorted(cells_told((n, place + 2, rows))) for place in range(len(rows))])


class StepsOf(unittest.TestCase):
    def test_each_kind(self):
        for telling, steps in [
            ((2, 4, (A, A, (2, 3, 0, 0))), [("same", 1, 0)]),
            ((2, 5, (A, A, A, (2, 3, 4, 1))), [("same", 1, 0), ("same", 2, 0), ("same", 2, 1)]),
            ((2, 4, (ZEROS, ONES, (2, 3, 0, 1))), [("plain", 0), ("plain", 1)]),
            ((1, 3, (ONES, ONES)), [("gone", 0), ("plain", 0), ("plain", 1), ("same", 1, 0)]),
            ((2, 2, (A, (2, 0, 0, 0), (3, 3, 0, 0))), [("gone", 2)]),
            ((0, 1, (A,)), [("gone", 0)]),
            ((2, 4, (A, (1, 0, 0, 1), (2, 3, 3, 2), (4, 2, 2, 3), (1, 0, 0, 1))),
             [("gone", 3), ("gone", 4), ("same", 4, 1)]),
            ((2, 4, ((0, 0, 1, 0), (0, 0, 0, 1), (3, 2, 0, 0))), []),
        ]:
            told = steps_of(telling)
            self.assertEqual(told, steps)
            self.assertIsInstance(told, list)
            self.assertTrue(all([isinstance(step, tuple) for step in told]))

    def test_sorted_as_numbers(self):
        telling = (1, 2, (A,) * 12)
        told = steps_of(telling)
        self.assertEqual(told, sorted(told))
        self.assertEqual(told[:11], [("gone", k) for k in range(1, 12)])
        self.assertEqual(told[11:], [("same", k, j) for k in range(12) for j in range(k)])

    def test_by_the_words(self):
        for telling in TELLINGS + made_tellings():
            n, top, rows = telling
            wanted = [("same", k, j) for k in range(len(rows)) for j in range(k) if rows[k] == rows[j]]
            wanted += [("plain", k) for k in range(len(rows)) if rows[k] in (ZEROS, ONES)]
            wanted += [("gone", k) for k in range(len(rows))
                       if top != k + 2 and not any([k + 2 in row for row in rows])]
            self.assertEqual(steps_of(telling), sorted(wanted))

    def test_shapes_have_none(self):
        shapes = [shape_by_hand(n, cells) for n, cells in some_floors()] + [checkered(12), long_shape(), empty(0),
                                                                            full(12)]
        for shape in shapes:
            self.assertEqual(steps_of(shape), [])
            self.assertEqual(one_telling(shape), shape)

    def test_a_told_list_is_the_askers_own(self):
        telling = TELLINGS[1]
        told = steps_of(telling)
        told.clear()
        self.assertEqual(len(steps_of(telling)), 3)
        self.assertTrue(is_telling(stepped(telling, ("same", 1, 0))))


class Stepped(unittest.TestCase):
    def test_same(self):
        self.assertEqual(stepped((2, 4, (A, A, (2, 3, 0, 0))), ("same", 1, 0)), (2, 3, (A, (2, 2, 0, 0))))
        three = (2, 5, (A, A, A, (2, 3, 4, 1)))
        self.assertEqual(stepped(three, ("same", 1, 0)), (2, 4, (A, A, (2, 2, 3, 1))))
        self.assertEqual(stepped(three, ("same", 2, 0)), (2, 4, (A, A, (2, 3, 2, 1))))
        self.assertEqual(stepped(three, ("same", 2, 1)), (2, 4, (A, A, (2, 3, 3, 1))))

    def test_same_of_the_top(self):
        self.assertEqual(stepped((1, 4, (A, (1, 0, 0, 1), A)), ("same", 2, 0)), (1, 2, (A, (1, 0, 0, 1))))

    def test_plain(self):
        telling = (2, 4, (ZEROS, ONES, (2, 3, 0, 1)))
        self.assertEqual(stepped(telling, ("plain", 0)), (2, 3, (ONES, (0, 2, 0, 1))))
        self.assertEqual(stepped(telling, ("plain", 1)), (2, 3, (ZEROS, (2, 1, 0, 1))))
        self.assertEqual(stepped((1, 2, (ONES,)), ("plain", 0)), (1, 1, ()))
        self.assertEqual(stepped((1, 2, (ZEROS,)), ("plain", 0)), (1, 0, ()))

    def test_gone(self):
        self.assertEqual(stepped((0, 1, (A,)), ("gone", 0)), (0, 1, ()))
        self.assertEqual(stepped((2, 4, (A, (1, 0, 0, 1), (3, 0, 0, 3))), ("gone", 0)),
                         (2, 3, ((1, 0, 0, 1), (2, 0, 0, 2))))

    def test_a_row_less_and_all_cells_stay(self):
        for telling in TELLINGS + made_tellings():
            for step in steps_of(telling):
                behind = stepped(telling, step)
                self.assertTrue(is_telling(behind))
                self.assertEqual(len(behind[2]), len(telling[2]) - 1)
                self.assertEqual(cells_told(behind), cells_told(telling))
                self.assertEqual(stepped(telling, step), behind)

    def test_later_places_are_one_less(self):
        rows = ((0, 0, 0, 1), A, A, (0, 1, 0, 0), (2, 3, 4, 5), (6, 5, 4, 2))
        self.assertEqual(stepped((3, 7, rows), ("same", 2, 1)),
                         (3, 6, ((0, 0, 0, 1), A, (0, 1, 0, 0), (2, 3, 3, 4), (5, 4, 3, 2))))

    def test_no_telling_ahead_of_no_step(self):
        for thing in odd_things() + [[1, 2, (A,)], (0, 2, (A,)), (1, 3, (A,)), (1, True, ()), (1, 2, [A])]:
            for step in [("gone", 0), None, ("gone", 99), Prickly()]:
                with self.assertRaises(NoTelling):
                    stepped(thing, step)
            with self.assertRaises(NoTelling):
                steps_of(thing)
            with self.assertRaises(NoTelling):
                one_telling(thing)

    def test_no_step(self):
        telling = (2, 5, (A, A, ONES, (2, 3, 4, 1), ZEROS, (1, 0, 0, 1)))
        self.assertEqual(steps_of(telling), [("gone", 4), ("gone", 5), ("plain", 2), ("plain", 4), ("same", 1, 0)])
        for step in odd_things() + [
            ("same", 0, 1), ("same", 1, 1), ("same", 0, 0), ("same", 2, 0), ("same", 3, 0), ("same", 9, 0),
            ("same", 1, -1), ("same", 1, -6), ("same", -5, 0), ("same", True, 0), ("same", 1, False),
            ("same", True, False), ["same", 1, 0], ("same", 1), ("same",), ("same", 1, 0, 0), ("same", 1, None),
            ("same", "1", "0"), ("same", (1,), 0), "same", "same 1 0", "same10", ("Same", 1, 0), (None, 1, 0),
            (1, 0, "same"), (["same"], 1, 0), ("plain", 0), ("plain", 3), ("plain", 6), ("plain", -2),
            ("plain", 2, 0), ("plain",), ["plain", 2], ("plain", "2"), ("plain", None), ("plain", [2]), (b"plain", 2),
            ("gone", 0), ("gone", 3), ("gone", 6), ("gone", -1), ("gone", 4, 0), ("gone",), ["gone", 4], ("gone", None),
            ("gone", Prickly()), ("same", 1, Prickly()), (Prickly(), 4), ("gone", "4"), ("", 4), ("none", 4), (4,),
            ("gone", 10 ** 50), (("gone", 4),), [("gone", 4)],
        ]:
            with self.assertRaises(NoStep):
                stepped(telling, step)
        self.assertEqual(len(stepped(telling, ("same", 1, 0))[2]), 5)

    def test_a_shape_has_no_step(self):
        for shape in [empty(3), full(3), checkered(3), (1, 2, (A,))]:
            for step in [("same", 1, 0), ("plain", 0), ("gone", 0), (), None]:
                with self.assertRaises(NoStep):
                    stepped(shape, step)

    def test_true_for_one_in_a_gone_or_plain_step(self):
        telling = (1, 2, (A, ONES))
        self.assertEqual(steps_of(telling), [("gone", 1), ("plain", 1)])
        for step in [("gone", True), ("plain", True)]:
            with self.assertRaises(NoStep):
                stepped(telling, step)

    def test_what_is_handed_in_stays(self):
        step = ["same", 1, 0]
        with self.assertRaises(NoStep):
            stepped(TELLINGS[0], step)
        self.assertEqual(step, ["same", 1, 0])


class OneTelling(unittest.TestCase):
    def test_it_is_the_shape_of_the_cells(self):
        for telling in TELLINGS + made_tellings():
            shape = one_telling(telling)
            self.assertTrue(is_shape(shape))
            self.assertEqual(shape, shape_by_hand(telling[0], cells_told(telling)))
            self.assertEqual(one_telling(shape), shape)

    def test_whatever_steps_are_done(self):
        for telling in TELLINGS + made_tellings()[::9]:
            self.every_order(telling)

    def every_order(self, telling):
        shape = one_telling(telling)
        seen, ahead = {telling}, [telling]
        while ahead:
            here = ahead.pop()
            self.assertEqual(one_telling(here), shape)
            steps = steps_of(here)
            if not steps:
                self.assertEqual(len(here[2]), len(shape[2]))
                self.assertEqual(row_sets(here), row_sets(shape))
            for step in steps:
                behind = stepped(here, step)
                if behind not in seen:
                    seen.add(behind)
                    ahead.append(behind)

    def test_twenty_three_rows(self):
        rows = [A, A, ONES] + [(k % 4 + 1, 2, 3, 4) for k in range(1, 20)] + [(5, 6, 7, 8)]
        telling = (3, 24, tuple(rows))
        self.assertEqual(one_telling(telling), shape_by_hand(3, cells_told(telling)))
        for first in (True, False):
            here = telling
            while steps_of(here):
                here = stepped(here, steps_of(here)[0 if first else -1])
                self.assertEqual(one_telling(here), one_telling(telling))
            self.assertEqual(len(here[2]), len(one_telling(telling)[2]))

    def test_rows_deeper_than_the_floor(self):
        rows = tuple([A] + [(k + 1, 0, 0, 1) for k in range(1, 23)])
        self.assertEqual(one_telling((0, 1, rows)), (0, 1, ()))
        self.assertEqual(one_telling((1, 2, rows)), (1, 2, (A,)))
        self.assertEqual(steps_of((1, 2, rows)), [("gone", 22)])
        self.assertEqual(stepped((1, 2, rows), ("gone", 22)), (1, 2, rows[:22]))

    def test_a_shape_in_any_order(self):
        n, top, rows = shape_by_hand(3, [(0, 0), (0, 3), (5, 1), (6, 6), (7, 6)])
        for order in itertools.permutations(range(len(rows))):
            numbers = {0: 0, 1: 1}
            numbers.update({place + 2: at + 2 for at, place in enumerate(order)})
            thing = (n, numbers[top], tuple([tuple([numbers[q] for q in rows[place]]) for place in order]))
            if is_telling(thing):
                self.assertEqual(steps_of(thing), [])
                self.assertEqual(one_telling(thing), (n, top, rows))


if __name__ == "__main__":
    unittest.main()
