"""What the tests share: papers checked by sums and products alone, and values that are wrong."""

import itertools
import random

from gluewhole.errors import (
    InvalidCell, InvalidGrid, InvalidMap, InvalidNumber, InvalidRow, InvalidSpace, InvalidTable, InvalidTelling,
)
from gluewhole.tables.tables import Table

ROUND = ((0,), (1,), (2,), (0, 1), (0, 2), (1, 2))
EDGE = ((0,), (1,), (0, 1))
FILLED = ((0,), (1,), (2,), (0, 1), (0, 2), (1, 2), (0, 1, 2))
ONE, LESS, TWO = (1, ((1,),)), (1, ((-1,),)), (1, ((2,),))
TWIST = Table(
    ROUND, {cell: 1 for cell in ROUND},
    {((0,), (0, 1)): ONE, ((1,), (0, 1)): ONE, ((0,), (0, 2)): ONE, ((2,), (0, 2)): ONE,
     ((1,), (1, 2)): ONE, ((2,), (1, 2)): LESS})


def deep(value):
    """The value, seven tuples deep."""
    for _ in range(7):
        value = (value,)
    return value


ODD = (
    None, True, False, 0, 1, -1, 2, 7, 10 ** 12, -10 ** 12, 10 ** 99, "", "0", "row", "a\nb", "x" * 20000,
    (), [], {}, (0,), [0], (0, 1), [0, 1], (1, 0), (True,), (False,), (None,), ("0",), ((),), ((0,),), [(0,)],
    (([0],),), (0, ()), [0, ()], (0, []), (1, ((1,),)), (1, [(1,)]), (1, ([1],)), (True, ((1,),)), (1, ((True,),)),
    (2, ((1,),)), {0: 0}, {0: True}, {"a": 1}, {(0,): 1}, {None: None}, {(0,): {}}, deep(0), deep([]), deep(""),
    TWIST, (TWIST,), [TWIST], {0: TWIST}, (1, ((TWIST,),)), (TWIST, TWIST), ((TWIST,),), {(0,): TWIST},
)

WRONG_ROWS = (
    None, True, 1, "1", [1], {}, {1: 1}, (True,), (1, False), (None,), ("1",), ((1,),), (10 ** 12,), (1, -10 ** 12),
    (0,) * 61, TWIST, (TWIST,), deep(1))
WRONG_GRIDS = (
    None, True, 1, "1", (), (1,), [1, ((1,),)], (1, [(1,)]), (1, ([1],)), (2, ((1,),)), (1, ((1,), (1, 2))),
    (1, ((True,),)), (True, ((1,),)), (False, ()), (1, ((10 ** 12,),)), (1, ((-10 ** 12,),)), (61, ()),
    (61, ((0,) * 61,)), (0, ((),) * 61), (-1, ()), (1, ((1,),), 1), ((1,), ((1,),)), (1, (1,)), (1, (("1",),)),
    ("1", ((1,),)), {1: 1}, TWIST, (1, TWIST), (1, ((TWIST,),)), (10 ** 12, ()), deep(1))
WRONG_INTEGERS = (None, True, False, "1", "", (), (1,), [1], {}, 10 ** 12, -10 ** 12, 10 ** 99, TWIST, deep(1))
WRONG_CELLS = (
    None, True, 0, "0", (), [0], {}, (0, 0), (1, 0), (0, 1, 2, 3, 4), (100,), (-1,), (True,), (0, True), (False,),
    (None,), ("0",), ((0,),), (10 ** 12,), TWIST, (TWIST,), deep(0))
WRONG_SPACES = (
    None, True, 0, "", [], {}, [(0,)], ((0, 1),), ((0,), (0, 1)), ((0,), (0,)), ((1,), (0,)), ((0,), (0, 1), (1,)),
    ((0,), [1]), ((0,), 1), ((True,),), ((0,), (True,)), ((0,), (1,), (2,), (0, 1), (1, 2), (0, 2)),
    ((0,), (1,), (2,), (0, 1), (0, 2), (0, 1, 2)), tuple([(point,) for point in range(101)]), ((),), ((0,), ()),
    TWIST, (TWIST,), deep(0), tuple([(point,) for point in range(81)]), ((0,), (1,), (0, True)))
WRONG_LEADS = (
    None, True, 0, "", (), [], ((0, 0),), {0: 100}, {100: 0}, {-1: 0}, {0: -1}, {True: 0}, {0: True}, {0: None},
    {None: 0}, {(0,): (0,)}, {"0": 0}, {0: "0"}, {0: [0]}, {point: 0 for point in range(81)}, {0: 0, 1: False},
    {0: TWIST}, TWIST, deep(0))
WRONG_TABLES = (None, True, 0, "table", (), [], {}, ROUND, (ROUND, {}, {}), deep(0), [TWIST], (TWIST,))

WRONG = {
    "row": (InvalidRow, WRONG_ROWS),
    "grid": (InvalidGrid, WRONG_GRIDS),
    "integer": (InvalidNumber, WRONG_INTEGERS),
    "size": (InvalidNumber, WRONG_INTEGERS + (-1, 61)),
    "from 1": (InvalidNumber, WRONG_INTEGERS + (0, -1)),
    "from 0": (InvalidNumber, WRONG_INTEGERS + (-1,)),
    "0 to 3": (InvalidNumber, WRONG_INTEGERS + (-1, 4)),
    "1 to 3": (InvalidNumber, WRONG_INTEGERS + (0, -1, 4)),
    "rank": (InvalidNumber, WRONG_INTEGERS + (-1, 5)),
    "point": (InvalidNumber, WRONG_INTEGERS + (-1, 100)),
    "point of": (InvalidNumber, WRONG_INTEGERS + (-1, 99, 100)),
    "degree": (InvalidNumber, WRONG_INTEGERS + (-1, 4)),
    "cell": (InvalidCell, WRONG_CELLS),
    "cell of": (InvalidCell, WRONG_CELLS + ((99,), (0, 99))),
    "space": (InvalidSpace, WRONG_SPACES),
    "lead": (InvalidMap, WRONG_LEADS),
    "table": (InvalidTable, WRONG_TABLES),
    "telling": (InvalidTelling, WRONG_ROWS),
}


def refusal(case, function, arguments, error):
    """The error of this very class that the call raises."""
    with case.assertRaises(error, msg=f"{function.__name__}{arguments!r:.300}") as caught:
        function(*arguments)
    case.assertIs(type(caught.exception), error, f"{function.__name__}{arguments!r:.300}")
    return caught.exception


def check_wrong(case, function, good, kinds):
    """Each argument that is wrong raises its error, keeps what it should, and the first wrong one counts.

    `good` are right arguments; `kinds` tells for each one a key of WRONG, or None if it is judged.
    """
    function(*good)
    for place, kind in enumerate(kinds):
        if kind is None:
            continue
        error, wrongs = WRONG[kind]
        for wrong in wrongs:
            caught = refusal(case, function, good[:place] + (wrong,) + good[place + 1:], error)
            if error is InvalidNumber:
                case.assertIs(caught.given, wrong)
        for later in range(place + 1, len(kinds)):
            if kinds[later] is not None:
                for wrong in (wrongs[0], wrongs[-1]):
                    worse = WRONG[kinds[later]][1][0]
                    both = good[:place] + (wrong,) + good[place + 1:later] + (worse,) + good[later + 1:]
                    refusal(case, function, both, error)


def check_judged(case, function, before, right, wrong=(), values=ODD):
    """The function takes the right values, and neither the wrong ones nor, but for the right ones, odd ones."""
    for value in right:
        case.assertIs(function(*before, value), True, f"{function.__name__} of {value!r:.300}")
    for value in wrong:
        case.assertIs(function(*before, value), False, f"{function.__name__} of {value!r:.300}")
    for value in values:
        if not any([same_kind(value, one) for one in right]):
            case.assertIs(function(*before, value), False, f"{function.__name__} of {value!r:.300}")


def same_kind(one, other):
    """Whether two values are equal, with True and 1 told apart."""
    return one == other and repr(one) == repr(other)


def grids(seed, many, most=5, size=9):
    """Grids of random numbers: dense and sparse ones, lower ranks and multiples among them."""
    source = random.Random(seed)
    found = []
    for turn in range(many):
        height, width = source.randint(0, most), source.randint(0, most)
        numbers = ((0, 1, -1), range(-size, size + 1), (0, 0, 0, 2, 3, -6), (0, 4, 6, 12, -10))[turn % 4]
        rows = [[source.choice(numbers) for _ in range(width)] for _ in range(height)]
        if turn % 3 == 0 and height > 1:
            rows[-1] = [2 * number for number in rows[0]]
        found.append((width, tuple([tuple(row) for row in rows])))
    return found


EDGE_GRIDS = (
    (0, ()), (0, ((),)), (0, ((), ())), (1, ()), (3, ()), (1, ((0,),)), (1, ((1,),)), (1, ((-1,),)), (1, ((6,),)),
    (2, ((0, 0), (0, 0))), (3, ((0, 0, 0), (0, 0, 0))), (2, ((2, 4),)), (1, ((2,), (4,))), (2, ((2, 0), (0, 2))),
    (2, ((2, 0), (0, 3))), (3, ((6, 10, 15),)), (2, ((1, 2), (2, 4))), (3, ((1, 2, 3), (4, 5, 6), (7, 8, 9))),
    (3, ((0, 0, 2), (0, 0, 0), (4, 0, 0))), (2, ((0, 1), (1, 0))), (1, ((999999999999,),)),
    (2, ((999999999999, -999999999998), (123456789012, 999999999989))))


def dense(height, width, seed, most=9):
    """A grid of random numbers of these sizes."""
    source = random.Random(seed)
    return width, tuple([tuple([source.randint(-most, most) for _ in range(width)]) for _ in range(height)])


def closed(cells):
    """The cells with all their parts, ascending as in a space."""
    found = {some for cell in cells for size in range(1, 5) for some in itertools.combinations(cell, size)}
    return tuple(sorted(found, key=lambda cell: (len(cell), cell)))


def spaces(seed, many, most=7):
    """Random spaces of up to so many points, with cells of all degrees."""
    source = random.Random(seed)
    found = [()]
    while len(found) < many:
        names = sorted(source.sample((0, 1, 2, 3, 5, 8, 13, 21, 34, 55, 89, 98, 99), source.randint(1, most)))
        tops = []
        for _ in range(source.randint(1, 6)):
            tops.append(tuple(sorted(source.sample(names, source.randint(1, min(4, len(names)))))))
        if len(closed(tops)) <= 80:
            found.append(closed(tops))
    return found


def times(one, other):
    """The product of two grids that fit."""
    assert one[0] == len(other[1])
    places = range(one[0])
    return other[0], tuple([
        tuple([sum([row[k] * other[1][k][at] for k in places]) for at in range(other[0])]) for row in one[1]])


def added(one, other):
    """The sum of two grids that fit."""
    assert one[0] == other[0] and len(one[1]) == len(other[1])
    return one[0], tuple([tuple([a + b for a, b in zip(row, line)]) for row, line in zip(one[1], other[1])])


def scaled(grid, number):
    """The grid times an integer."""
    return grid[0], tuple([tuple([number * item for item in row]) for row in grid[1]])


def unit(size):
    """The unit grid."""
    return size, tuple([tuple([int(at == place) for at in range(size)]) for place in range(size)])


def transposed(grid):
    """The grid with rows and columns exchanged."""
    return len(grid[1]), tuple([tuple([row[at] for row in grid[1]]) for at in range(grid[0])])


def product_sum(one, other):
    """The sum of the products of two rows of one length."""
    assert len(one) == len(other)
    return sum([one[k] * other[k] for k in range(len(one))])


def moved(grid, row):
    """What the grid leads the row to."""
    return tuple([product_sum(line, row) for line in grid[1]])


def read(row, grid):
    """What the row reads the grid to."""
    return moved(transposed(grid), row)


def is_zero(number, modulus):
    """Whether the number counts as 0."""
    return number == 0 if modulus == 0 else number % modulus == 0


def is_whole(value):
    """Whether the value is an integer of any length."""
    return type(value) is int


def are_numbers(value, length):
    """Whether the value is a tuple of so many integers."""
    return type(value) is tuple and len(value) == length and all([is_whole(number) for number in value])


def is_shaped(value, height, width):
    """Whether the value is a grid of integers of this height and width."""
    if type(value) is not tuple or len(value) != 2 or value[0] != width or type(value[1]) is not tuple:
        return False
    return is_whole(value[0]) and len(value[1]) == height and all([are_numbers(row, width) for row in value[1]])


def undo(one, other, size):
    """Whether both are grids of this size that undo one another."""
    fit = is_shaped(one, size, size) and is_shaped(other, size, size)
    return fit and times(one, other) == unit(size) and times(other, one) == unit(size)


def diagonal_grid(numbers, height, width):
    """The grid with these numbers on its diagonal."""
    return width, tuple([
        tuple([numbers[at] if at == place and at < len(numbers) else 0 for at in range(width)])
        for place in range(height)])


def are_divisors(value, most):
    """Whether the value is a tuple of at most so many integers above 0, each dividing the next one."""
    if type(value) is not tuple or len(value) > most or not all([is_whole(item) and item > 0 for item in value]):
        return False
    return all([behind % ahead == 0 for ahead, behind in zip(value, value[1:])])


def divisors_hold(grid, found, paper):
    """Whether the paper shows that these are the divisors of the grid."""
    width, height = grid[0], len(grid[1])
    if not are_divisors(found, min(width, height)) or type(paper) is not tuple or len(paper) != 4:
        return False
    left, left_back, right, right_back = paper
    if not undo(left, left_back, height) or not undo(right, right_back, width):
        return False
    return times(times(left, grid), right) == diagonal_grid(found, height, width)


def bars(grid, row, pair):
    """Whether the pair (m, r) bars the row."""
    m, bar = pair
    if not is_whole(m) or m < 0 or not are_numbers(bar, len(grid[1])):
        return False
    return all([is_zero(item, m) for item in read(bar, grid)]) and not is_zero(product_sum(bar, row), m)


def kernel_holds(grid, base, paper):
    """Whether the paper shows that this is a base of the kernel of the grid."""
    width, height = grid[0], len(grid[1])
    n, back, further = paper
    many = base[0]
    if not is_shaped(base, width, many) or not is_whole(n) or n < 1:
        return False
    if not is_shaped(back, many, width) or not is_shaped(further, width, height):
        return False
    none = (many, ((0,) * many,) * height)
    told = added(scaled(times(base, back), n), times(further, grid))
    return times(grid, base) == none and times(back, base) == unit(many) and told == scaled(unit(width), n)


def undone_holds(kind, grid, paper):
    """Whether the paper shows that the grid is undone, or is not."""
    size = grid[0]
    if kind == "undone":
        return undo(grid, paper, size)
    m, bar = paper
    fit = is_whole(m) and m >= 0 and are_numbers(bar, size)
    return fit and all([is_zero(item, m) for item in read(bar, grid)]) and not all([is_zero(item, m) for item in bar])


def alike_holds(kind, one, other, paper):
    """Whether the paper shows that the grids are alike, or are not."""
    if kind == "alike":
        if one[0] != other[0] or len(one[1]) != len(other[1]) or len(paper) != 4:
            return False
        ahead, ahead_back, behind, behind_back = paper
        fit = undo(ahead, ahead_back, len(one[1])) and undo(behind, behind_back, one[0])
        return fit and times(times(ahead, one), behind) == other
    if one[0] != other[0] or len(one[1]) != len(other[1]):
        return paper == ()
    some, first, others, last = paper
    return some != others and divisors_hold(one, some, first) and divisors_hold(other, others, last)


def lots_hold(kind, one, other, paper):
    """Whether the paper shows that the grids have the same lot, or have not."""
    if kind == "same lot":
        ahead, back = paper
        fit = is_shaped(ahead, len(other[1]), len(one[1])) and is_shaped(back, len(one[1]), len(other[1]))
        return fit and times(ahead, one) == other and times(back, other) == one
    which, index, bar = paper
    if not is_whole(which) or which not in (0, 1) or not is_whole(index) or index < 0:
        return False
    rows, against = (one[1], other) if which == 0 else (other[1], one)
    return bars(transposed(against), rows[index], bar)


def holds(claim, paper):
    """Whether the paper shows that the claim is true, by sums and products alone."""
    kind, grid = claim[0], claim[1]
    if kind in ("undone", "not undone"):
        return undone_holds(kind, grid, paper)
    if kind == "divisors":
        return divisors_hold(grid, claim[2], paper)
    if kind in ("alike", "unlike"):
        return alike_holds(kind, grid, claim[2], paper)
    if kind == "made":
        return are_numbers(paper, grid[0]) and moved(grid, paper) == claim[2]
    if kind == "barred":
        return bars(grid, claim[2], paper)
    if kind == "made modulo":
        less = [a - b for a, b in zip(moved(grid, paper), claim[2])]
        return are_numbers(paper, grid[0]) and all([is_zero(item, claim[3]) for item in less])
    if kind == "barred modulo":
        return bars(grid, claim[2], (claim[3], paper))
    if kind in ("same lot", "unlike lots"):
        return lots_hold(kind, grid, claim[2], paper)
    assert kind == "kernel"
    return kernel_holds(grid, claim[2], paper)
