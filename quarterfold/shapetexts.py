"""Shapes written as texts and read from them: point 8 of the document."""

from quarterfold.errors import NoText
from quarterfold.tellings import is_shape, want_shape


def line_of(numbers):
    """The numbers as a line of text."""
    return " ".join([str(number) for number in numbers]) + "\n"


def shape_text(shape):
    """The text of the shape."""
    want_shape(shape)
    n, top, rows = shape
    return line_of((n, top)) + "".join([line_of(row) for row in rows])


def is_written_number(word):
    """Whether the word is a number in figures, without a nought ahead."""
    if word == "" or not all([sign in "0123456789" for sign in word]):
        return False
    return word == "0" or word[0] != "0"


def read_number(word):
    """The number that the word writes."""
    if not is_written_number(word):
        raise NoText("a number is written in figures without noughts ahead")
    # Figure by figure, as int(word) refuses words of some thousand figures with an error of its own.
    number = 0
    for sign in word:
        number = 10 * number + int(sign)
    return number


def read_line(line):
    """The tuple of the numbers in the line."""
    return tuple([read_number(word) for word in line.split(" ")])


def read_shape(text):
    """The shape whose text it is."""
    if not isinstance(text, str) or not text.endswith("\n"):
        raise NoText("a shape's text is a text of lines, each ended by a line feed")
    first, *rest = [read_line(line) for line in text[:-1].split("\n")]
    if len(first) != 2:
        raise NoText("the first line of a shape's text has two numbers")
    shape = (first[0], first[1], tuple(rest))
    if not is_shape(shape):
        raise NoText("what is told by the text is no shape")
    return shape
