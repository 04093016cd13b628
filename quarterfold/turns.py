"""Shapes turned, and turns one behind the other: point 14 of the document.

A turn below 4 is so many quarter turns to the right; one from 4 on is to be turned over first.
"""

from quarterfold.errors import NoTurn
from quarterfold.rows import is_whole, shape_of
from quarterfold.tellings import want_shape

TURNS = 8
OVER = 4


def want_turn(turn):
    """Refuse what is no turn."""
    if not is_whole(turn) or not 0 <= turn < TURNS:
        raise NoTurn("a turn is a whole number from 0 to 7")


def quarter_turns(turn):
    """How many quarter turns to the right the turn has."""
    return turn & 3


def is_over(turn):
    """Whether the turn is to be turned over first."""
    return turn >= OVER


def turn_for(over, quarters):
    """The turn that is to be turned over first, or not, and then makes so many quarter turns."""
    return OVER * int(over) + (quarters & 3)


def turned_row(row, turn):
    """The row of a square behind the turn, with its quarters' numbers as they were."""
    if is_over(turn):
        row = (row[1], row[0], row[3], row[2])
    for times in range(quarter_turns(turn)):
        row = (row[2], row[0], row[3], row[1])
    return row


def turned(shape, turn):
    """The shape behind the turn."""
    want_shape(shape)
    want_turn(turn)
    n, top, rows = shape
    # Unlike rows stay unlike, but they may end in another order.
    return shape_of(n, top, [turned_row(row, turn) for row in rows])


def turn_behind(turn, other):
    """The turn that is the one and then the other."""
    want_turn(turn)
    want_turn(other)
    quarters = quarter_turns(turn)
    # What is turned over behind them, quarter turns to the right have gone to the left.
    if is_over(other):
        quarters = -quarters
    return turn_for(is_over(turn) != is_over(other), quarter_turns(other) + quarters)


def turn_back(turn):
    """The turn that leads back."""
    want_turn(turn)
    if is_over(turn):
        return turn
    return turn_for(False, -turn)
