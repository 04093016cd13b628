"""Steps that lead from a telling to the one telling of its cells: point 9 of the document."""

from quarterfold.errors import NoStep
from quarterfold.rows import FIRST, Book, is_plain, is_whole, renumbered, shape_of
from quarterfold.tellings import want_telling


def same_steps(rows):
    """The steps by which a row goes for one before it that is alike."""
    places = {}
    steps = []
    for k, row in enumerate(rows):
        alike = places.setdefault(row, [])
        steps.extend([("same", k, j) for j in alike])
        alike.append(k)
    return steps


def plain_steps(rows):
    """The steps by which a plain row goes for its number."""
    return [("plain", k) for k, row in enumerate(rows) if is_plain(row)]


def gone_steps(top, rows):
    """The steps by which a row goes that nothing stands for."""
    used = {top: True}
    for row in rows:
        for number in row:
            used[number] = True
    return [("gone", k) for k in range(len(rows)) if k + FIRST not in used]


def steps_of(telling):
    """All steps of the telling that can be done, sorted."""
    want_telling(telling)
    top, rows = telling[1:]
    return sorted(same_steps(rows) + plain_steps(rows) + gone_steps(top, rows))


def is_step(telling, thing):
    """Whether the thing is a step of the telling."""
    if not isinstance(thing, tuple) or len(thing) < 2 or not isinstance(thing[0], str):
        return False
    # True and False are equal to 1 and 0, but are no places.
    if not all([is_whole(place) for place in thing[1:]]):
        return False
    return thing in steps_of(telling)


def number_behind(rows, step):
    """The number that comes for that of the row that goes; behind "gone" none is asked for."""
    if step[0] == "same":
        return step[2] + FIRST
    return rows[step[1]][0]


def stepped(telling, step):
    """The telling behind the step."""
    want_telling(telling)
    if not is_step(telling, step):
        raise NoStep("it is no step of this telling")
    n, top, rows = telling
    k = step[1]
    numbers = list(range(k + FIRST)) + [number_behind(rows, step)] + list(range(k + FIRST, len(rows) + 1))
    left = rows[:k] + rows[k + 1:]
    return (n, numbers[top], tuple([renumbered(row, numbers) for row in left]))


def one_telling(telling):
    """The shape to which the telling is brought."""
    want_telling(telling)
    n, top, rows = telling
    book = Book()
    numbers = book.numbers_for(rows)
    return shape_of(n, numbers[top], book.kept)
