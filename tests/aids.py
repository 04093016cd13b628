"""What several test files need: odd things to hand in, and a plain reckoning cell by cell."""


class Prickly:
    """An object that fails wherever it is compared, measured, gone through or made a key."""

    def fail(self, *others):
        raise RuntimeError("this object must not be asked")

    __eq__ = __ne__ = __lt__ = __le__ = __gt__ = __ge__ = fail
    __len__ = __iter__ = __hash__ = __bool__ = __index__ = __int__ = fail
    __getitem__ = __contains__ = __add__ = __radd__ = __sub__ = __rshift__ = __str__ = __repr__ = fail


def odd_things():
    """Things of many kinds that are no size, number, address, telling, step, cell or box."""
    ring = []
    ring.append(ring)
    return [None, True, False, -1, 10 ** 50, -(10 ** 50), "x", "\n", " ", "4", "00000000000000", b"", b"0",
            [], [0], [1, 2], (), (None,), (0,), {}, {0: 1}, set(), frozenset(), range(3), object, object(),
            odd_things, lambda: 0, ring, (ring,), iter([]), NotImplemented, ..., Prickly(), (Prickly(),),
            (Prickly(),) * 2, (Prickly(),) * 3, (Prickly(),) * 4, ValueError("x")]


def not_whole():
    """Things that are no whole numbers at all."""
    return [thing for thing in odd_things() if not (isinstance(thing, int) and not isinstance(thing, bool))]


def no_shapes():
    """Things that are no shapes, many of them nearly one."""
    row = (0, 1, 1, 0)
    return odd_things() + [
        (1, 2, ((0, 0, 0, 0),)), (2, 0, (row,)), (0, 2, (row,)), [0, 0, ()], (1, 2, [row]), (1, 2, ([0, 1, 1, 0],)),
        (0, True, ()), (13, 0, ()), (True, 0, ()), (0, 2, ()), (2, 3, (row, row)), (1, 2, ((0, True, 1, 0),)),
        (2, 4, ((1, 0, 0, 0), row, (3, 2, 0, 0))), (0, 0), (0, 0, (), ())]


def refusal_of(deed, *things):
    """The class of the error with which the things are refused, None where they are answered."""
    try:
        deed(*things)
    except Exception as error:
        return type(error)
    return None


def all_addresses(n):
    """The addresses of all squares of a floor of size n."""
    told = [""]
    for address in told:
        if len(address) < n:
            told.extend([address + figure for figure in "0123"])
    return told


def number_of_cell(shape, row, column):
    """The number by which the cell stands, the way down gone by hand."""
    n, number, rows = shape
    for k in range(n - 1, -1, -1):
        if number > 1:
            number = rows[number - 2][2 * (row >> k & 1) + (column >> k & 1)]
    return number


def cells_told(telling):
    """The set of full cells of a telling, reckoned cell by cell."""
    n, top, rows = telling
    cells = set()

    def go(number, row, column, side):
        if number == 0:
            return
        if side == 1:
            assert number == 1, "a single cell stands by a row"
            cells.add((row, column))
            return
        half = side // 2
        for at in range(4):
            quarter = number if number == 1 else rows[number - 2][at]
            go(quarter, row + half * (at // 2), column + half * (at % 2), half)

    go(top, 0, 0, 2 ** n)
    return cells


def shape_by_hand(n, cells):
    """The shape of a set of full cells, reckoned straight from the words of points 6 and 7."""
    cells = set(cells)
    rows = []

    def go(row, column, side):
        inside = [(r, c) for r, c in cells if row <= r < row + side and column <= c < column + side]
        if not inside:
            return 0
        if len(inside) == side * side:
            return 1
        half = side // 2
        mine = tuple([go(row + half * (at // 2), column + half * (at % 2), half) for at in range(4)])
        if mine not in rows:
            rows.append(mine)
        return rows.index(mine) + 2

    return (n, go(0, 0, 2 ** n), tuple(rows))


def leaf_of_each_cell(shape):
    """The address of the leaf in which each cell lies, reckoned cell by cell."""
    n, top, rows = shape
    found = {}
    for row in range(2 ** n):
        for column in range(2 ** n):
            number, address = top, ""
            while number > 1:
                k = n - 1 - len(address)
                at = 2 * (row >> k & 1) + (column >> k & 1)
                number, address = rows[number - 2][at], address + str(at)
            found[(row, column)] = address
    return found


def cells_from_bits(n, bits):
    """The cells of a floor of size n whose bits are 1."""
    side = 2 ** n
    return [(at // side, at % side) for at in range(side * side) if bits >> at & 1]


def scattered(many, seed):
    """So many numbers below 2 ** 32 that look scattered and are the same each time."""
    numbers = []
    for _ in range(many):
        seed = (seed * 6364136223846793005 + 1442695040888963407) % 2 ** 64
        numbers.append(seed >> 32)
    return numbers


def some_floors():
    """Pairs of a size and a list of its full cells: all of sizes 0 and 1, some of 2 and 3."""
    floors = [(n, cells_from_bits(n, bits)) for n in (0, 1) for bits in range(2 ** 4 ** n)]
    floors += [(2, cells_from_bits(2, bits % 2 ** 16)) for bits in scattered(60, 1)]
    wide = scattered(40, 2)
    floors += [(3, cells_from_bits(3, wide[k] << 32 | wide[k + 1])) for k in range(0, 40, 2)]
    return floors


def checkered(n):
    """The shape of size n, above 0, in which every other cell is full: n rows, no two leaves merged."""
    rows = [(0, 1, 1, 0)] + [(k + 1,) * 4 for k in range(1, n)]
    return (n, n + 1, tuple(rows))


def scattered_cells(n, many, seed):
    """So many cells of a floor of size n that look scattered; some may come twice."""
    numbers = scattered(2 * many, seed)
    return [(numbers[2 * k] % 2 ** n, numbers[2 * k + 1] % 2 ** n) for k in range(many)]


def scattered_shape(n, many, seed):
    """A shape of size n in which so many squares aren't plain: it has three times as many leaves and one."""
    numbers = iter(scattered(20 * many + 100, seed))
    leaves, split = [""], {}
    while len(split) < many:
        at = next(numbers) % len(leaves)
        if len(leaves[at]) < n:
            split[leaves[at]] = True
            leaves[at:at + 1] = [leaves[at] + figure for figure in "0123"]
    places, rows = {}, []

    def go(address):
        if address not in split:
            return next(numbers) % 2
        mine = [go(address + figure) for figure in "0123"]
        if mine in ([0] * 4, [1] * 4):
            mine[next(numbers) % 4] ^= 1
        if tuple(mine) not in places:
            places[tuple(mine)] = len(rows) + 2
            rows.append(tuple(mine))
        return places[tuple(mine)]

    return (n, go(""), tuple(rows))


def layered_shape(n, wide, seed):
    """A shape of size n with at most so many rows for each size, and with up to a leaf for each cell."""
    numbers = iter(scattered(4 * wide * n, seed))
    layer, made = [0, 1], []
    for size in range(1, n + 1):
        many = 1 if size == n else wide
        new = [tuple([layer[next(numbers) % len(layer)] for at in range(4)]) for row in range(many)]
        layer = list(range(len(made) + 2, len(made) + 2 + many))
        made.extend(new)
    told, places, rows = {0: 0, 1: 1}, {}, []

    def go(number):
        if number not in told:
            mine = tuple([go(quarter) for quarter in made[number - 2]])
            if mine in ((0,) * 4, (1,) * 4):
                told[number] = mine[0]
            else:
                if mine not in places:
                    places[mine] = len(rows) + 2
                    rows.append(mine)
                told[number] = places[mine]
        return told[number]

    return (n, go(layer[0]), tuple(rows))


def long_shape(seed=3):
    """A shape of more than a thousand rows: scattered cells, but for an empty quarter."""
    rows = []
    bits = iter(scattered(3 * 4 ** 6, seed))

    def go(size):
        if size == 0:
            return next(bits) % 2
        mine = tuple([0 if size == 7 and at == 3 else go(size - 1) for at in range(4)])
        if mine in ((0,) * 4, (1,) * 4):
            return mine[0]
        if mine not in rows:
            rows.append(mine)
        return rows.index(mine) + 2

    return (7, go(7), tuple(rows))


def cells_beside(cell, by):
    """The cells, on the floor or not, that touch the cell by that way."""
    row, column = cell
    around = [(row + down, column + right) for down in (-1, 0, 1) for right in (-1, 0, 1) if (down, right) != (0, 0)]
    return [(r, c) for r, c in around if by == "corners" or row == r or column == c]


def led_together(cells, by):
    """The cells in sets of those that are led to each other, in the order of their first cells."""
    left, groups = set(cells), []
    for start in sorted(cells):
        if start in left:
            left.discard(start)
            group, ahead = {start}, [start]
            while ahead:
                for cell in cells_beside(ahead.pop(), by):
                    if cell in left:
                        left.discard(cell)
                        group.add(cell)
                        ahead.append(cell)
            groups.append(group)
    return groups


def parts_by_hand(cells, by):
    """The parts of a set of full cells, each a set of cells."""
    return led_together(cells, by)


def holes_by_hand(n, cells, by):
    """The holes of a set of full cells, each a set of cells."""
    last = 2 ** n - 1
    empty_ones = {(row, column) for row in range(last + 1) for column in range(last + 1)} - set(cells)
    groups = led_together(empty_ones, "sides" if by == "corners" else "corners")
    return [group for group in groups if not any([0 in cell or last in cell for cell in group])]


def bit_rows(shape):
    """The floor's rows as whole numbers, the bit 2 ** column for each full cell; also of sixteen million cells."""
    n, top, rows = shape
    known = {}

    def go(number, size):
        if number < 2:
            return [number * (2 ** 2 ** size - 1)] * 2 ** size
        if (number, size) not in known:
            four = [go(quarter, size - 1) for quarter in rows[number - 2]]
            half = 2 ** (size - 1)
            above = [left | right << half for left, right in zip(four[0], four[1])]
            below = [left | right << half for left, right in zip(four[2], four[3])]
            known[(number, size)] = above + below
        return known[(number, size)]

    return go(top, n)


def rings(n, many, apart=2):
    """Boxes (row, column, high, wide) of square rings within one another on a floor of size n, one cell thick."""
    boxes = []
    for k in range(many):
        first, side = k * apart, 2 ** n - 2 * k * apart
        last = first + side - 1
        boxes += [(first, first, 1, side), (last, first, 1, side), (first, first, side, 1), (first, last, side, 1)]
    return boxes


def snake(wide, high):
    """The cells of a snake of single cells that goes to and fro, one row empty between each two."""
    cells = [(row, column) for row in range(0, high, 2) for column in range(wide)]
    turns = [(row, wide - 1 if row % 4 == 1 else 0) for row in range(1, high - 1, 2)]
    return cells + turns


def comb(wide, high):
    """The cells of a comb: a back along the first row, and a tooth in every other column."""
    return [(0, column) for column in range(wide)] + [
        (row, column) for column in range(0, wide, 2) for row in range(1, high)]


def stair(steps, row=0, column=0):
    """The cells of a stair that goes down to the right, two cells in each row."""
    return [(row + k, column + k + at) for k in range(steps) for at in (0, 1)]


def slope(steps, row=0, column=0):
    """The cells of a line of cells that have corners alone in common."""
    return [(row + k, column + k) for k in range(steps)]
