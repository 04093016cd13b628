"""Point 5: floors, squares, addresses, cells; with point 2 for what is handed in."""

import unittest

from quarterfold.errors import NoAddress, NoCell, NoFloor
from quarterfold.floors import address_of, box_of
from tests.aids import all_addresses, not_whole, odd_things

NO_SIZES = [-1, 13, True, False, None, "3", "", [3], (3,), 10 ** 50]
NO_ADDRESSES = ["4", "0123", "012 ", "-1", "a", " ", "\n", "0\n", "00000000000000", ["0"], ("0", "1"), 0, 1, b"0", None]


class BoxOf(unittest.TestCase):
    def test_some_boxes(self):
        for n, address, box in [
            (0, "", (0, 0, 1)),
            (1, "", (0, 0, 2)), (1, "0", (0, 0, 1)), (1, "1", (0, 1, 1)), (1, "2", (1, 0, 1)), (1, "3", (1, 1, 1)),
            (3, "", (0, 0, 8)), (3, "1", (0, 4, 4)), (3, "2", (4, 0, 4)), (3, "21", (4, 2, 2)),
            (3, "210", (4, 2, 1)), (3, "333", (7, 7, 1)),
            (12, "", (0, 0, 4096)), (12, "3", (2048, 2048, 2048)), (12, "12", (1024, 2048, 1024)),
            (12, "3" * 12, (4095, 4095, 1)), (12, "0" * 12, (0, 0, 1)), (12, "0" * 11 + "2", (1, 0, 1)),
        ]:
            with self.subTest(n=n, address=address):
                told = box_of(n, address)
                self.assertEqual(told, box)
                self.assertIsInstance(told, tuple)
                self.assertEqual(box_of(n, address), box)

    def test_quarters_share_their_square(self):
        for address in all_addresses(2):
            row, column, side = box_of(3, address)
            half = side // 2
            self.assertEqual([box_of(3, address + figure) for figure in "0123"],
                             [(row, column, half), (row, column + half, half),
                              (row + half, column, half), (row + half, column + half, half)])

    def test_no_floor(self):
        for n in NO_SIZES + not_whole():
            with self.subTest(n=str(type(n))), self.assertRaises(NoFloor):
                box_of(n, "")

    def test_no_floor_ahead_of_no_address(self):
        for n in NO_SIZES:
            for address in NO_ADDRESSES:
                with self.assertRaises(NoFloor):
                    box_of(n, address)

    def test_no_address(self):
        for address in NO_ADDRESSES + odd_things():
            with self.subTest(address=str(type(address))), self.assertRaises(NoAddress):
                box_of(3, address)

    def test_one_figure_too_many(self):
        for n in range(13):
            box_of(n, "2" * n)
            with self.assertRaises(NoAddress):
                box_of(n, "2" * (n + 1))


class AddressOf(unittest.TestCase):
    def test_some_addresses(self):
        for n, row, column, size, address in [
            (0, 0, 0, 0, ""),
            (1, 0, 0, 1, ""), (1, 1, 1, 1, ""),
            (1, 0, 0, 0, "0"), (1, 0, 1, 0, "1"), (1, 1, 0, 0, "2"), (1, 1, 1, 0, "3"),
            (3, 5, 3, 3, ""), (3, 5, 3, 2, "2"), (3, 5, 3, 1, "21"), (3, 5, 3, 0, "213"),
            (12, 0, 0, 0, "0" * 12), (12, 4095, 4095, 0, "3" * 12), (12, 4095, 0, 0, "2" * 12),
            (12, 2047, 2048, 11, "1"), (12, 2048, 2047, 11, "2"), (12, 4095, 4095, 12, ""),
        ]:
            with self.subTest(n=n, row=row, column=column, size=size):
                told = address_of(n, row, column, size)
                self.assertEqual(told, address)
                self.assertIsInstance(told, str)
                self.assertEqual(address_of(n, row, column, size), address)

    def test_the_box_has_the_cell(self):
        for n in (0, 1, 3):
            for row in range(2 ** n):
                for column in range(2 ** n):
                    self.boxes_have(n, row, column)
        for row, column in [(0, 0), (4095, 4095), (1234, 3210), (2047, 2048), (1, 4094)]:
            self.boxes_have(12, row, column)

    def boxes_have(self, n, row, column):
        for size in range(n + 1):
            first_row, first_column, side = box_of(n, address_of(n, row, column, size))
            self.assertEqual(side, 2 ** size)
            self.assertTrue(first_row <= row < first_row + side)
            self.assertTrue(first_column <= column < first_column + side)

    def test_first_inner_and_last_cell_lead_back_to_the_address(self):
        for address in all_addresses(3):
            row, column, side = box_of(3, address)
            size = 3 - len(address)
            for far in {0, side // 2, side - 1}:
                self.assertEqual(address_of(3, row + far, column + far, size), address)
            self.assertEqual(address_of(3, row, column + side - 1, size), address)

    def test_no_floor(self):
        for wrong in NO_SIZES + not_whole():
            with self.subTest(wrong=str(type(wrong))):
                with self.assertRaises(NoFloor):
                    address_of(wrong, 0, 0, 0)
                with self.assertRaises(NoFloor):
                    address_of(3, 0, 0, wrong)

    def test_size_above_n(self):
        for n in range(12):
            address_of(n, 0, 0, n)
            with self.assertRaises(NoFloor):
                address_of(n, 0, 0, n + 1)

    def test_no_cell(self):
        for n in (0, 1, 3, 12):
            for wrong in [-1, 2 ** n, True, None, "0", "x", [0], (0,)] + odd_things():
                with self.subTest(n=n, wrong=str(type(wrong))):
                    with self.assertRaises(NoCell):
                        address_of(n, wrong, 0, 0)
                    with self.assertRaises(NoCell):
                        address_of(n, 0, wrong, 0)
                    with self.assertRaises(NoCell):
                        address_of(n, wrong, wrong, n)

    def test_no_floor_ahead_of_no_cell(self):
        for n, size in [(-1, 0), (13, 0), (None, None), (3, -1), (3, True), (3, "0"), (3, 4), (0, 1), (12, 13)]:
            for row, column in [(-1, 0), (0, "x"), (None, None), (10 ** 9, 0)]:
                with self.assertRaises(NoFloor):
                    address_of(n, row, column, size)


class HandedIn(unittest.TestCase):
    def test_lists_that_are_refused_stay_as_they_were(self):
        wrong = ["0", ["1"]]
        with self.assertRaises(NoAddress):
            box_of(3, wrong)
        with self.assertRaises(NoFloor):
            box_of(wrong, "0")
        with self.assertRaises(NoCell):
            address_of(3, wrong, 0, 0)
        self.assertEqual(wrong, ["0", ["1"]])

    def test_refused_and_answered_alike_again(self):
        for _ in range(3):
            self.assertEqual(box_of(2, "31"), (2, 3, 1))
            with self.assertRaises(NoAddress):
                box_of(2, "314")
            self.assertEqual(address_of(2, 2, 3, 0), "31")


if __name__ == "__main__":
    unittest.main()
