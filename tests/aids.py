"""What several test files need: odd things to hand in, and a plain reckoning cell by cell."""


class Prickly:
    """An object that fails wherever it is compared, measured, gone through or made a key."""

    def fail(self, *others):
        raise RuntimeError("this object must not be asked")

    __eq__ = __ne__ = __lt__ = __le__ = __gt__ = __ge__ = fail
    __len__ = __iter__ = __hash__ = __bool__ = __index__ = __int__ = fail
    __getitem__ = __contains__ = __add__ = __radd__ = __sub__ = __rshift__ = __str__ = __repr__ = fail


def odd_things():
    """Things of many kinds that are no size, number, address, telling, step, cell or box."""
    ring = []
    ring.append(ring)
    return [None, True, False, -1, 10 ** 50, -(10 ** 50), "x", "\n", " ", "4", "00000000000000", b"", b"0",
            [], [0], [1, 2], (), (None,), (0,), {}, {0: 1}, set(), frozenset(), range(3), object, object(),
            odd_things, lambda: 0, ring, (ring,), iter([]), NotImplemented, ..., Prickly(), (Prickly(),),
            (Prickly(),) * 2, (Prickly(),) * 3, (Prickly(),) * 4, ValueError("x")]


def not_whole():
    """Things that are no whole numbers at all."""
    return [thing for thing in odd_things() if not (isinstance(thing, int) and not isinstance(thing, bool))]


def all_addresses(n):
    """The addresses of all squares of a floor of size n."""
    told = [""]
    for address in told:
        if len(address) < n:
            told.extend([address + figure for figure in "0123"])
    return told


def cells_told(telling):
    """The set of full cells of a telling, reckoned cell by cell."""
    n, top, rows = telling
    cells = set()

    def go(number, row, column, side):
        if number == 0:
            return
        if side == 1:
            assert number == 1, "a single cell stands by a row"
            cells.add((row, column))
            return
        half = side // 2
        for at in range(4):
            quarter = number if number == 1 else rows[number - 2][at]
            go(quarter, row + half * (at // 2), column + half * (at % 2), half)

    go(top, 0, 0, 2 ** n)
    return cells


def shape_by_hand(n, cells):
    """The shape of a set of full cells, reckoned straight from the words of points 6 and 7."""
    cells = set(cells)
    rows = []

    def go(row, column, side):
        inside = [(r, c) for r, c in cells if row <= r < row + side and column <= c < column + side]
        if not inside:
            return 0
        if len(inside) == side * side:
            return 1
        half = side // 2
        mine = tuple([go(row + half * (at // 2), column + half * (at % 2), half) for at in range(4)])
        if mine not in rows:
            rows.append(mine)
        return rows.index(mine) + 2

    return (n, go(0, 0, 2 ** n), tuple(rows))


def cells_from_bits(n, bits):
    """The cells of a floor of size n whose bits are 1."""
    side = 2 ** n
    return [(at // side, at % side) for at in range(side * side) if bits >> at & 1]


def scattered(many, seed):
    """So many numbers below 2 ** 32 that look scattered and are the same each time."""
    numbers = []
    for _ in range(many):
        seed = (seed * 6364136223846793005 + 1442695040888963407) % 2 ** 64
        numbers.append(seed >> 32)
    return numbers


def some_floors():
    """Pairs of a size and a list of its full cells: all of sizes 0 and 1, some of 2 and 3."""
    floors = [(n, cells_from_bits(n, bits)) for n in (0, 1) for bits in range(2 ** 4 ** n)]
    floors += [(2, cells_from_bits(2, bits % 2 ** 16)) for bits in scattered(60, 1)]
    wide = scattered(40, 2)
    floors += [(3, cells_from_bits(3, wide[k] << 32 | wide[k + 1])) for k in range(0, 40, 2)]
    return floors


def checkered(n):
    """The shape of size n, above 0, in which every other cell is full: n rows, no two leaves merged."""
    rows = [(0, 1, 1, 0)] + [(k + 1,) * 4 for k in range(1, n)]
    return (n, n + 1, tuple(rows))


def long_shape():
    """A shape of more than a thousand rows: scattered cells, but for an empty quarter."""
    rows = []
    bits = iter(scattered(3 * 4 ** 6, 3))

    def go(size):
        if size == 0:
            return next(bits) % 2
        mine = tuple([0 if size == 7 and at == 3 else go(size - 1) for at in range(4)])
        if mine in ((0,) * 4, (1,) * 4):
            return mine[0]
        if mine not in rows:
            rows.append(mine)
        return rows.index(mine) + 2

    return (7, go(7), tuple(rows))
