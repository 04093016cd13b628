"""Point 8: a shape's text, written and read; with point 2 for what is handed in."""

import unittest

from quarterfold.errors import NoShape, NoText
from quarterfold.shapetexts import read_shape, shape_text
from quarterfold.tellings import empty, full, is_shape
from tests.aids import checkered, long_shape, odd_things, shape_by_hand, some_floors

TEXTS = [
    ((0, 0, ()), "0 0\n"),
    ((0, 1, ()), "0 1\n"),
    ((12, 0, ()), "12 0\n"),
    ((12, 1, ()), "12 1\n"),
    ((1, 2, ((0, 1, 1, 0),)), "1 2\n0 1 1 0\n"),
    ((2, 3, ((0, 1, 1, 0), (2, 1, 0, 2))), "2 3\n0 1 1 0\n2 1 0 2\n"),
    ((12, 2, ((1, 1, 1, 0),)), "12 2\n1 1 1 0\n"),
]
GOOD = "2 3\n0 1 1 0\n2 1 0 2\n"
NO_SHAPES = [
    (1, 2, ((0, 0, 0, 0),)), (1, 2, ((1, 1, 1, 1),)), (2, 0, ((0, 1, 1, 0),)), (2, 1, ((0, 1, 1, 0),)),
    (2, 4, ((0, 1, 1, 0), (0, 1, 1, 0), (2, 3, 0, 0))), (2, 2, ((0, 1, 1, 0), (2, 1, 0, 2))),
    (2, 4, ((0, 0, 1, 0), (0, 0, 0, 1), (3, 2, 0, 0))), (2, 3, ((0, 1, 1, 0), (1, 0, 0, 1))),
    (0, 2, ((0, 1, 1, 0),)), (13, 0, ()), (0, 2, ()), (1, 2, ((0, 1, 1, 2),)), (1, 2, ((0, 1, 1, 3),)),
]


def written(telling):
    """The text of a telling, be it a shape or not."""
    n, top, rows = telling
    return "".join([" ".join(map(str, line)) + "\n" for line in [(n, top), *rows]])


class Written(unittest.TestCase):
    def test_sign_by_sign(self):
        for shape, text in TEXTS:
            self.assertEqual(shape_text(shape), text)
            self.assertIsInstance(shape_text(shape), str)
            self.assertEqual(shape_text(shape), text)

    def test_numbers_of_more_figures(self):
        lines = shape_text(checkered(12)).split("\n")
        self.assertEqual(lines[0], "12 13")
        self.assertEqual(lines[1], "0 1 1 0")
        self.assertEqual(lines[-2:], ["12 12 12 12", ""])
        self.assertEqual(len(lines), 14)

    def test_no_shape(self):
        for thing in odd_things() + NO_SHAPES + [GOOD, [1, 2, ((0, 1, 1, 0),)], (1, 2, [(0, 1, 1, 0)])]:
            with self.assertRaises(NoShape):
                shape_text(thing)


class Read(unittest.TestCase):
    def test_texts(self):
        for shape, text in TEXTS:
            self.assertEqual(read_shape(text), shape)
            self.assertTrue(is_shape(read_shape(text)))

    def test_there_and_back(self):
        shapes = [shape_by_hand(n, cells) for n, cells in some_floors()]
        shapes += [empty(n) for n in range(13)] + [full(n) for n in range(13)]
        shapes += [checkered(n) for n in range(1, 13)] + [long_shape()]
        for shape in shapes:
            text = shape_text(shape)
            self.assertEqual(text, written(shape))
            self.assertEqual(read_shape(text), shape)
            self.assertTrue(is_shape(read_shape(text)))

    def refused(self, text):
        with self.subTest(text=repr(text)[:60] if isinstance(text, str) else ""), self.assertRaises(NoText):
            read_shape(text)

    def test_noughts_ahead(self):
        for text in ["00 0\n", "0 00\n", "0 01\n", "01 2\n0 1 1 0\n", "1 02\n0 1 1 0\n", "1 2\n00 1 1 0\n",
                     "1 2\n0 01 1 0\n", "1 2\n0 1 1 00\n"]:
            self.refused(text)

    def test_a_sign_too_many_anywhere(self):
        for at in range(len(GOOD) + 1):
            for sign in " \n+-.,x_\t\r0":
                text = GOOD[:at] + sign + GOOD[at:]
                try:
                    shape = read_shape(text)
                except NoText:
                    continue
                self.assertEqual(written(shape), text)
                self.assertTrue(is_shape(shape))
        for at in range(len(GOOD) + 1):
            for sign in " \n+-.,x_\t\r":
                self.refused(GOOD[:at] + sign + GOOD[at:])

    def test_a_sign_too_few_or_another(self):
        for at in range(len(GOOD)):
            self.refused(GOOD[:at] + GOOD[at + 1:])
            for sign in " \n+-x":
                if sign != GOOD[at]:
                    self.refused(GOOD[:at] + sign + GOOD[at + 1:])

    def test_line_ends(self):
        for text in ["0 0", "0 0\n\n", "\n0 0\n", "0 0 \n", " 0 0\n", "0  0\n", "0 0\r\n", "0 0\r", "0 0\x0b",
                     "0 0\x0c", "", "\n", " \n", " ", "\n\n", "1 2\n0 1 1 0", "1 2\n\n0 1 1 0\n", "1 2\n \n0 1 1 0\n",
                     "1 2\n0 1 1 0\n\n", "1 2\n0 1 1 0\n \n", "1 2 0 1 1 0\n", "1 2\n0 1\n1 0\n"]:
            self.refused(text)

    def test_numbers_too_few_or_too_many(self):
        for text in ["0\n", "0 0 0\n", "1 2\n0 1 1\n", "1 2\n0 1 1 0 0\n", "1\n0 1 1 0\n", "1 2 2\n0 1 1 0\n",
                     "0 1 1 0\n", "1 2\n0 1 1 0\n0\n", "1 2\n0 1 1 0\n0 1\n"]:
            self.refused(text)

    def test_signs_that_are_no_figures(self):
        for text in ["+0 0\n", "-0 0\n", "0 -1\n", "0 +1\n", "a 0\n", "0 a\n", "0 1.0\n", "0 1e0\n", "0x1 0\n",
                     "1_2 0\n", "(0, 0, ())\n", "0,0\n", "0\t0\n", "\u0661 0\n", "\u00b2 0\n", "0 \u0661\n",
                     "0\u00a00\n", "True 0\n", "0 None\n"]:
            self.refused(text)

    def test_no_shape_written(self):
        for telling in NO_SHAPES:
            self.refused(written(telling))
        self.refused("-1 0\n")
        self.refused("1 2\n0 1 1 -1\n")

    def test_long_numbers(self):
        for many in (20, 60, 7900):
            self.refused("0 " + "1" * many + "\n")
            self.refused("1" * many + " 0\n")
            self.refused("1 2\n0 1 1 " + "2" * many + "\n")

    def test_anything(self):
        for thing in odd_things() + [GOOD.encode(), [GOOD], (GOOD,), (1, 2, ((0, 1, 1, 0),)), 0, 1]:
            self.refused(thing)

    def test_what_is_handed_in_stays(self):
        thing = ["0 0\n"]
        self.refused(thing)
        self.assertEqual(thing, ["0 0\n"])
        self.assertEqual(read_shape(thing[0]), (0, 0, ()))


if __name__ == "__main__":
    unittest.main()
