"""What the tests share: papers checked by sums and products alone, and values that are wrong."""

import fractions
import itertools
import math
import random
import time

from gluewhole.base.made import kernel
from gluewhole.errors import (
    InvalidCell, InvalidGrid, InvalidMap, InvalidNumber, InvalidOperation, InvalidRow, InvalidRows, InvalidSpace,
    InvalidTable, InvalidTelling,
)
from gluewhole.tables.groups import Rows
from gluewhole.tables.tables import Table, constant, framed, on_parts, on_star, table_sum
from gluewhole.tables.tellings import rise_grid

ROUND = ((0,), (1,), (2,), (0, 1), (0, 2), (1, 2))
EDGE = ((0,), (1,), (0, 1))
FILLED = ((0,), (1,), (2,), (0, 1), (0, 2), (1, 2), (0, 1, 2))
ONE, LESS, TWO = (1, ((1,),)), (1, ((-1,),)), (1, ((2,),))
TWIST = Table(
    ROUND, {cell: 1 for cell in ROUND},
    {((0,), (0, 1)): ONE, ((1,), (0, 1)): ONE, ((0,), (0, 2)): ONE, ((2,), (0, 2)): ONE,
     ((1,), (1, 2)): ONE, ((2,), (1, 2)): LESS})


def deep(value):
    """The value, seven tuples deep."""
    for _ in range(7):
        value = (value,)
    return value


ODD = (
    None, True, False, 0, 1, -1, 2, 7, 10 ** 12, -10 ** 12, 10 ** 99, "", "0", "row", "a\nb", "x" * 20000,
    (), [], {}, (0,), [0], (0, 1), [0, 1], (1, 0), (True,), (False,), (None,), ("0",), ((),), ((0,),), [(0,)],
    (([0],),), (0, ()), [0, ()], (0, []), (1, ((1,),)), (1, [(1,)]), (1, ([1],)), (True, ((1,),)), (1, ((True,),)),
    (2, ((1,),)), {0: 0}, {0: True}, {"a": 1}, {(0,): 1}, {None: None}, {(0,): {}}, deep(0), deep([]), deep(""),
    TWIST, (TWIST,), [TWIST], {0: TWIST}, (1, ((TWIST,),)), (TWIST, TWIST), ((TWIST,),), {(0,): TWIST},
)

WRONG_ROWS = (
    None, True, 1, "1", [1], {}, {1: 1}, (True,), (1, False), (None,), ("1",), ((1,),), (10 ** 12,), (1, -10 ** 12),
    (0,) * 61, TWIST, (TWIST,), deep(1))
WRONG_GRIDS = (
    None, True, 1, "1", (), (1,), [1, ((1,),)], (1, [(1,)]), (1, ([1],)), (2, ((1,),)), (1, ((1,), (1, 2))),
    (1, ((True,),)), (True, ((1,),)), (False, ()), (1, ((10 ** 12,),)), (1, ((-10 ** 12,),)), (61, ()),
    (61, ((0,) * 61,)), (0, ((),) * 61), (-1, ()), (1, ((1,),), 1), ((1,), ((1,),)), (1, (1,)), (1, (("1",),)),
    ("1", ((1,),)), {1: 1}, TWIST, (1, TWIST), (1, ((TWIST,),)), (10 ** 12, ()), deep(1))
WRONG_INTEGERS = (None, True, False, "1", "", (), (1,), [1], {}, 10 ** 12, -10 ** 12, 10 ** 99, TWIST, deep(1))
WRONG_CELLS = (
    None, True, 0, "0", (), [0], {}, (0, 0), (1, 0), (0, 1, 2, 3, 4), (100,), (-1,), (True,), (0, True), (False,),
    (None,), ("0",), ((0,),), (10 ** 12,), TWIST, (TWIST,), deep(0))
WRONG_SPACES = (
    None, True, 0, "", [], {}, [(0,)], ((0, 1),), ((0,), (0, 1)), ((0,), (0,)), ((1,), (0,)), ((0,), (0, 1), (1,)),
    ((0,), [1]), ((0,), 1), ((True,),), ((0,), (True,)), ((0,), (1,), (2,), (0, 1), (1, 2), (0, 2)),
    ((0,), (1,), (2,), (0, 1), (0, 2), (0, 1, 2)), tuple([(point,) for point in range(101)]), ((),), ((0,), ()),
    TWIST, (TWIST,), deep(0), tuple([(point,) for point in range(81)]), ((0,), (1,), (0, True)))
WRONG_LEADS = (
    None, True, 0, "", (), [], ((0, 0),), {0: 100}, {100: 0}, {-1: 0}, {0: -1}, {True: 0}, {0: True}, {0: None},
    {None: 0}, {(0,): (0,)}, {"0": 0}, {0: "0"}, {0: [0]}, {point: 0 for point in range(81)}, {0: 0, 1: False},
    {0: TWIST}, TWIST, deep(0))
WRONG_TABLES = (None, True, 0, "table", (), [], {}, ROUND, (ROUND, {}, {}), deep(0), [TWIST], (TWIST,))

WRONG_ROWS_OBJECTS = (None, True, 0, "rows", (), [], {}, ((1,), ()), TWIST, deep(0))

WRONG = {
    "rows": (InvalidRows, WRONG_ROWS_OBJECTS),
    "degree 1": (InvalidNumber, WRONG_INTEGERS + (-1, 2)),
    "operation": (InvalidOperation, (None, True, 0, "first ", (), [], {}, deep(0), TWIST)),
    "coordinates": (InvalidRow, (None, True, 1, "1", [1], {}, {1: 1}, (True,), (None,), ((1,),), (1,) * 61)),
    "long telling": (
        InvalidTelling, (None, True, 1, "1", [1], {}, {1: 1}, (True,), (None,), ((1,),), (1,) * 61, TWIST)),
    "sub": (InvalidSpace, WRONG_SPACES + (((9,),), ROUND + ((9,),), FILLED)),
    "row": (InvalidRow, WRONG_ROWS),
    "grid": (InvalidGrid, WRONG_GRIDS),
    "integer": (InvalidNumber, WRONG_INTEGERS),
    "size": (InvalidNumber, WRONG_INTEGERS + (-1, 61)),
    "from 1": (InvalidNumber, WRONG_INTEGERS + (0, -1)),
    "from 0": (InvalidNumber, WRONG_INTEGERS + (-1,)),
    "0 to 3": (InvalidNumber, WRONG_INTEGERS + (-1, 4)),
    "1 to 3": (InvalidNumber, WRONG_INTEGERS + (0, -1, 4)),
    "rank": (InvalidNumber, WRONG_INTEGERS + (-1, 5)),
    "point": (InvalidNumber, WRONG_INTEGERS + (-1, 100)),
    "point of": (InvalidNumber, WRONG_INTEGERS + (-1, 99, 100)),
    "degree": (InvalidNumber, WRONG_INTEGERS + (-1, 4)),
    "cell": (InvalidCell, WRONG_CELLS),
    "cell of": (InvalidCell, WRONG_CELLS + ((99,), (0, 99))),
    "space": (InvalidSpace, WRONG_SPACES),
    "lead": (InvalidMap, WRONG_LEADS),
    "table": (InvalidTable, WRONG_TABLES),
    "telling": (InvalidTelling, WRONG_ROWS),
}


def refusal(case, function, arguments, error):
    """The error of this very class that the call raises."""
    with case.assertRaises(error, msg=f"{function.__name__}{arguments!r:.300}") as caught:
        function(*arguments)
    case.assertIs(type(caught.exception), error, f"{function.__name__}{arguments!r:.300}")
    return caught.exception


def check_wrong(case, function, good, kinds):
    """Each argument that is wrong raises its error, keeps what it should, and the first wrong one counts.

    `good` are right arguments; `kinds` tells for each one a key of WRONG, or None if it is judged.
    """
    function(*good)
    for place, kind in enumerate(kinds):
        if kind is None:
            continue
        error, wrongs = WRONG[kind]
        for wrong in wrongs:
            caught = refusal(case, function, good[:place] + (wrong,) + good[place + 1:], error)
            if error is InvalidNumber:
                case.assertIs(caught.given, wrong)
        for later in range(place + 1, len(kinds)):
            if kinds[later] is not None:
                for wrong in (wrongs[0], wrongs[-1]):
                    worse = WRONG[kinds[later]][1][0]
                    both = good[:place] + (wrong,) + good[place + 1:later] + (worse,) + good[later + 1:]
                    refusal(case, function, both, error)


def fastest(function, *arguments, calls=40):
    """The least time of a few lots of calls."""
    found = []
    for _ in range(7):
        begin = time.perf_counter()
        for _ in range(calls):
            function(*arguments)
        found.append(time.perf_counter() - begin)
    return min(found)


def check_judged(case, function, before, right, wrong=(), values=ODD):
    """The function takes the right values, and neither the wrong ones nor, but for the right ones, odd ones."""
    for value in right:
        case.assertIs(function(*before, value), True, f"{function.__name__} of {value!r:.300}")
    for value in wrong:
        case.assertIs(function(*before, value), False, f"{function.__name__} of {value!r:.300}")
    for value in values:
        if not any([same_kind(value, one) for one in right]):
            case.assertIs(function(*before, value), False, f"{function.__name__} of {value!r:.300}")


def same_kind(one, other):
    """Whether two values are equal, with True and 1 told apart."""
    return one == other and repr(one) == repr(other)


def grids(seed, many, most=5, size=9):
    """Grids of random numbers: dense and sparse ones, lower ranks and multiples among them."""
    source = random.Random(seed)
    found = []
    for turn in range(many):
        height, width = source.randint(0, most), source.randint(0, most)
        numbers = ((0, 1, -1), range(-size, size + 1), (0, 0, 0, 2, 3, -6), (0, 4, 6, 12, -10))[turn % 4]
        rows = [[source.choice(numbers) for _ in range(width)] for _ in range(height)]
        if turn % 3 == 0 and height > 1:
            rows[-1] = [2 * number for number in rows[0]]
        found.append((width, tuple([tuple(row) for row in rows])))
    return found


EDGE_GRIDS = (
    (0, ()), (0, ((),)), (0, ((), ())), (1, ()), (3, ()), (1, ((0,),)), (1, ((1,),)), (1, ((-1,),)), (1, ((6,),)),
    (2, ((0, 0), (0, 0))), (3, ((0, 0, 0), (0, 0, 0))), (2, ((2, 4),)), (1, ((2,), (4,))), (2, ((2, 0), (0, 2))),
    (2, ((2, 0), (0, 3))), (3, ((6, 10, 15),)), (2, ((1, 2), (2, 4))), (3, ((1, 2, 3), (4, 5, 6), (7, 8, 9))),
    (3, ((0, 0, 2), (0, 0, 0), (4, 0, 0))), (2, ((0, 1), (1, 0))), (1, ((999999999999,),)),
    (2, ((999999999999, -999999999998), (123456789012, 999999999989))))


def dense(height, width, seed, most=9):
    """A grid of random numbers of these sizes."""
    source = random.Random(seed)
    return width, tuple([tuple([source.randint(-most, most) for _ in range(width)]) for _ in range(height)])


def closed(cells):
    """The cells with all their parts, ascending as in a space."""
    found = {some for cell in cells for size in range(1, 5) for some in itertools.combinations(cell, size)}
    return tuple(sorted(found, key=lambda cell: (len(cell), cell)))


def spaces(seed, many, most=7):
    """Random spaces of up to so many points, with cells of all degrees."""
    source = random.Random(seed)
    found = [()]
    while len(found) < many:
        names = sorted(source.sample((0, 1, 2, 3, 5, 8, 13, 21, 34, 55, 89, 98, 99), source.randint(1, most)))
        tops = []
        for _ in range(source.randint(1, 6)):
            tops.append(tuple(sorted(source.sample(names, source.randint(1, min(4, len(names)))))))
        if len(closed(tops)) <= 80:
            found.append(closed(tops))
    return found


def times(one, other):
    """The product of two grids that fit."""
    assert one[0] == len(other[1])
    places = range(one[0])
    return other[0], tuple([
        tuple([sum([row[k] * other[1][k][at] for k in places]) for at in range(other[0])]) for row in one[1]])


def told_determinant(rows):
    """The determinant, by all rows of columns."""
    found = 0
    for order in itertools.permutations(range(len(rows))):
        sign = (-1) ** sum([one > other for one, other in itertools.combinations(order, 2)])
        found += sign * math.prod([row[at] for row, at in zip(rows, order)])
    return found


def added(one, other):
    """The sum of two grids that fit."""
    assert one[0] == other[0] and len(one[1]) == len(other[1])
    return one[0], tuple([tuple([a + b for a, b in zip(row, line)]) for row, line in zip(one[1], other[1])])


def scaled(grid, number):
    """The grid times an integer."""
    return grid[0], tuple([tuple([number * item for item in row]) for row in grid[1]])


def unit(size):
    """The unit grid."""
    return size, tuple([tuple([int(at == place) for at in range(size)]) for place in range(size)])


def transposed(grid):
    """The grid with rows and columns exchanged."""
    return len(grid[1]), tuple([tuple([row[at] for row in grid[1]]) for at in range(grid[0])])


def product_sum(one, other):
    """The sum of the products of two rows of one length."""
    assert len(one) == len(other)
    return sum([one[k] * other[k] for k in range(len(one))])


def moved(grid, row):
    """What the grid leads the row to."""
    return tuple([product_sum(line, row) for line in grid[1]])


def read(row, grid):
    """What the row reads the grid to."""
    return moved(transposed(grid), row)


def is_zero(number, modulus):
    """Whether the number counts as 0."""
    return number == 0 if modulus == 0 else number % modulus == 0


def is_whole(value):
    """Whether the value is an integer of any length."""
    return type(value) is int


def are_numbers(value, length):
    """Whether the value is a tuple of so many integers."""
    return type(value) is tuple and len(value) == length and all([is_whole(number) for number in value])


def is_shaped(value, height, width):
    """Whether the value is a grid of integers of this height and width."""
    if type(value) is not tuple or len(value) != 2 or value[0] != width or type(value[1]) is not tuple:
        return False
    return is_whole(value[0]) and len(value[1]) == height and all([are_numbers(row, width) for row in value[1]])


def undo(one, other, size):
    """Whether both are grids of this size that undo one another."""
    fit = is_shaped(one, size, size) and is_shaped(other, size, size)
    return fit and times(one, other) == unit(size) and times(other, one) == unit(size)


def diagonal_grid(numbers, height, width):
    """The grid with these numbers on its diagonal."""
    return width, tuple([
        tuple([numbers[at] if at == place and at < len(numbers) else 0 for at in range(width)])
        for place in range(height)])


def are_divisors(value, most):
    """Whether the value is a tuple of at most so many integers above 0, each dividing the next one."""
    if type(value) is not tuple or len(value) > most or not all([is_whole(item) and item > 0 for item in value]):
        return False
    return all([behind % ahead == 0 for ahead, behind in zip(value, value[1:])])


def divisors_hold(grid, found, paper):
    """Whether the paper shows that these are the divisors of the grid."""
    width, height = grid[0], len(grid[1])
    if not are_divisors(found, min(width, height)) or type(paper) is not tuple or len(paper) != 4:
        return False
    left, left_back, right, right_back = paper
    if not undo(left, left_back, height) or not undo(right, right_back, width):
        return False
    return times(times(left, grid), right) == diagonal_grid(found, height, width)


def bars(grid, row, pair):
    """Whether the pair (m, r) bars the row."""
    m, bar = pair
    if not is_whole(m) or m < 0 or not are_numbers(bar, len(grid[1])):
        return False
    return all([is_zero(item, m) for item in read(bar, grid)]) and not is_zero(product_sum(bar, row), m)


def kernel_holds(grid, base, paper):
    """Whether the paper shows that this is a base of the kernel of the grid."""
    width, height = grid[0], len(grid[1])
    n, back, further = paper
    many = base[0]
    if not is_shaped(base, width, many) or not is_whole(n) or n < 1:
        return False
    if not is_shaped(back, many, width) or not is_shaped(further, width, height):
        return False
    none = (many, ((0,) * many,) * height)
    told = added(scaled(times(base, back), n), times(further, grid))
    return times(grid, base) == none and times(back, base) == unit(many) and told == scaled(unit(width), n)


def undone_holds(kind, grid, paper):
    """Whether the paper shows that the grid is undone, or is not."""
    size = grid[0]
    if kind == "undone":
        return undo(grid, paper, size)
    m, bar = paper
    fit = is_whole(m) and m >= 0 and are_numbers(bar, size)
    return fit and all([is_zero(item, m) for item in read(bar, grid)]) and not all([is_zero(item, m) for item in bar])


def alike_holds(kind, one, other, paper):
    """Whether the paper shows that the grids are alike, or are not."""
    if kind == "alike":
        if one[0] != other[0] or len(one[1]) != len(other[1]) or len(paper) != 4:
            return False
        ahead, ahead_back, behind, behind_back = paper
        fit = undo(ahead, ahead_back, len(one[1])) and undo(behind, behind_back, one[0])
        return fit and times(times(ahead, one), behind) == other
    if one[0] != other[0] or len(one[1]) != len(other[1]):
        return paper == ()
    some, first, others, last = paper
    return some != others and divisors_hold(one, some, first) and divisors_hold(other, others, last)


def lots_hold(kind, one, other, paper):
    """Whether the paper shows that the grids have the same lot, or have not."""
    if kind == "same lot":
        ahead, back = paper
        fit = is_shaped(ahead, len(other[1]), len(one[1])) and is_shaped(back, len(one[1]), len(other[1]))
        return fit and times(ahead, one) == other and times(back, other) == one
    which, index, bar = paper
    if not is_whole(which) or which not in (0, 1) or not is_whole(index) or index < 0:
        return False
    rows, against = (one[1], other) if which == 0 else (other[1], one)
    return bars(transposed(against), rows[index], bar)


def nought(height, width):
    """The grid with 0 alone."""
    return width, ((0,) * width,) * height


def side_by_side(one, other):
    """The grid with the columns of both."""
    assert len(one[1]) == len(other[1])
    return one[0] + other[0], tuple([row + line for row, line in zip(one[1], other[1])])


def first_rows(grid, many):
    """The grid of so many rows."""
    return grid[0], grid[1][:many]


def grow_noughts(one, other):
    """Whether the product of both grids has 0 alone."""
    return times(one, other) == nought(len(one[1]), other[0])


def group_holds(low, high, rank, found, paper):
    """Whether the paper shows that the group has this rank and these divisors."""
    base, kernel, told, diagonal = paper
    if high[0] != len(low[1]) or not grow_noughts(high, low) or not is_whole(rank) or rank < 0:
        return False
    if not are_divisors(found, 99) or 1 in found or not kernel_holds(high, base, kernel):
        return False
    ones = base[0] - rank - len(found)
    if ones < 0 or not is_shaped(told, base[0], low[0]) or times(base, told) != low:
        return False
    return divisors_hold(told, (1,) * ones + found, diagonal)


def reads_noughts(m, row, *grids):
    """Whether the row reads all columns of the grids as 0 modulo m."""
    if not is_whole(m) or m < 0 or not all([are_numbers(row, len(grid[1])) for grid in grids]):
        return False
    return all([is_zero(number, m) for grid in grids for number in read(row, grid)])


def led_claim_holds(claim, paper):
    """Whether the paper shows that a map of rows is one to one or onto in a degree, or is not."""
    kind, one, two, three, lead = claim
    if kind == "one to one":
        base, kernel, both, further, made = paper
        fit = kernel_holds(two, base, kernel) and is_shaped(made, one[0], both[0])
        fit = fit and kernel_holds(side_by_side(times(lead, base), three), both, further)
        return fit and times(one, made) == times(base, first_rows(both, base[0]))
    if kind == "lost":
        row, origin, m, bar = paper
        fit = are_numbers(row, two[0]) and are_numbers(origin, three[0]) and not any(moved(two, row))
        fit = fit and moved(lead, row) == moved(three, origin)
        return fit and reads_noughts(m, bar, one) and not is_zero(product_sum(bar, row), m)
    if kind == "onto":
        base, kernel, ahead, behind = paper
        fit = kernel_holds(three, base, kernel) and is_shaped(ahead, one[0], base[0])
        fit = fit and is_shaped(behind, two[0], base[0]) and grow_noughts(one, ahead)
        return fit and added(times(lead, ahead), times(two, behind)) == base
    row, base, kernel, m, bar = paper
    fit = kind == "missed" and are_numbers(row, three[0]) and not any(moved(three, row))
    fit = fit and kernel_holds(one, base, kernel) and reads_noughts(m, bar, times(lead, base), two)
    return fit and not is_zero(product_sum(bar, row), m)


def exact_holds(into, onto, paper):
    """Whether the pair of grids shows that both grids are exact."""
    ahead, behind = paper
    size = onto[0]
    if not is_shaped(ahead, into[0], size) or not is_shaped(behind, size, len(onto[1])):
        return False
    fit = times(ahead, into) == unit(into[0]) and times(onto, behind) == unit(len(onto[1]))
    return fit and added(times(into, ahead), times(behind, onto)) == unit(size)


def are_led(sizes, grids, others, more, lead):
    """Whether the tuple of grids is a map of bare rows."""
    if type(lead) is not tuple or len(lead) != len(sizes) or len(others) != len(sizes):
        return False
    if not all([is_shaped(grid, high, low) for grid, low, high in zip(lead, sizes, others)]):
        return False
    degrees = range(len(sizes) - 1)
    return all([times(lead[d + 1], grids[d]) == times(more[d], lead[d]) for d in degrees])


def lesser_holds(sizes, grids, others, more, paper):
    """Whether the triple shows that both bare rows have the same groups."""
    there, back, steps = paper
    if not are_led(sizes, grids, others, more, there) or not are_led(others, more, sizes, grids, back):
        return False
    if not all([times(ahead, behind) == unit(size) for ahead, behind, size in zip(there, back, others)]):
        return False
    if type(steps) is not tuple or len(steps) != len(sizes) - 1:
        return False
    if not all([is_shaped(grid, low, high) for grid, low, high in zip(steps, sizes, sizes[1:])]):
        return False
    for degree, size in enumerate(sizes):
        told = times(back[degree], there[degree])
        if degree > 0:
            told = added(told, times(grids[degree - 1], steps[degree - 1]))
        if degree + 1 < len(sizes):
            told = added(told, times(steps[degree], grids[degree]))
        if told != unit(size):
            return False
    return True


def turn_between(one, other):
    """The turn of two neighbours, 0 for other cells."""
    signs = dict([(face, sign) for sign, face in told_faces(other)])
    turns = [-sign * signs[face] for sign, face in told_faces(one) if face in signs]
    return turns[0] if len(turns) == 1 else 0


def sides_hold(kind, cells, paper):
    """Whether the paper is sides of the cells, or a row of neighbours that turns round."""
    turns = [[turn_between(one, other) for other in cells] for one in cells]
    places = range(len(cells))
    if kind == "two sides":
        fit = are_numbers(paper, len(cells)) and all([side in (1, -1) for side in paper])
        return fit and all([
            turns[one][other] == 0 or paper[one] == turns[one][other] * paper[other]
            for one in places for other in places])
    if type(paper) is not tuple or not paper or paper[0] != paper[-1]:
        return False
    if not all([is_whole(at) and at in places for at in paper]):
        return False
    return math.prod([turns[one][other] for one, other in zip(paper, paper[1:])]) == -1


def seat_parts(sizes, row):
    """The parts of a telling at all indices."""
    assert sum(sizes) == len(row)
    ends = list(itertools.accumulate(sizes, initial=0))
    return [row[begin:end] for begin, end in zip(ends, ends[1:])]


def unlike_seats(sizes, one, other):
    """The seats at which two tellings differ."""
    pairs = zip(seat_parts(sizes, one), seat_parts(sizes, other))
    return tuple([at for at, (left, right) in enumerate(pairs) if left != right])


def all_lots(sizes, n):
    """The lots of n seats, or the one with all."""
    seats = [at for at, size in enumerate(sizes) if size]
    return list(itertools.combinations(seats, min(n, len(seats))))


def lot_columns(sizes, grid, lot):
    """The columns of the grid at a lot."""
    marks = [at for at, size in enumerate(sizes) for _ in range(size)]
    kept = [place for place, at in enumerate(marks) if at in lot]
    return len(kept), tuple([tuple([row[place] for place in kept]) for row in grid[1]])


def is_led_to_noughts(grid, row):
    """Whether this is a row of integers that the grid leads to noughts."""
    return are_numbers(row, grid[0]) and not any(moved(grid, row))


def held_holds(sizes, grid, lot, paper):
    """Whether the pair shows that no whole but 0 lives on the lot."""
    n, back = paper
    columns = lot_columns(sizes, grid, lot)
    fit = is_whole(n) and n > 0 and is_shaped(back, columns[0], len(grid[1]))
    return fit and times(back, columns) == scaled(unit(columns[0]), n)


def seats_hold(claim, paper):
    """Whether the paper shows what a claim of stage 17 says."""
    kind, sizes, grid = claim[:3]
    if kind == "held":
        return held_holds(sizes, grid, claim[3], paper)
    if kind == "loose":
        return is_led_to_noughts(grid, paper) and any(paper) and all([
            at in claim[3] for at in unlike_seats(sizes, paper, (0,) * grid[0])])
    if kind == "safe":
        lots = all_lots(sizes, 2 * claim[3])
        return len(lots) == len(paper) and all([held_holds(sizes, grid, lot, one) for lot, one in zip(lots, paper)])
    if kind == "confused":
        one, other, telling = paper
        fit = is_led_to_noughts(grid, one) and is_led_to_noughts(grid, other) and one != other
        fit = fit and are_numbers(telling, grid[0])
        return fit and all([len(unlike_seats(sizes, some, telling)) <= claim[3] for some in (one, other)])
    if kind == "near":
        return is_led_to_noughts(grid, paper) and len(unlike_seats(sizes, paper, claim[3])) <= claim[4]
    lots, rise = all_lots(sizes, claim[4]), moved(grid, claim[3])
    return kind == "far" and len(lots) == len(paper) and all([
        bars(lot_columns(sizes, grid, lot), rise, pair) for lot, pair in zip(lots, paper)])


def as_fractions(row):
    """A fraction row as Python's fractions, each pair being in lowest terms."""
    assert type(row) is tuple
    for pair in row:
        assert are_numbers(pair, 2) and pair[1] > 0 and math.gcd(*pair) == 1
    return tuple([fractions.Fraction(*pair) for pair in row])


def as_pairs(row):
    """Python's fractions as a fraction row."""
    return tuple([(number.numerator, number.denominator) for number in row])


def less_of(one, other):
    """The first row less the second one."""
    assert len(one) == len(other)
    return tuple([left - right for left, right in zip(one, other)])


def nearest_hold(claim, paper):
    """Whether the paper shows what a claim of stage 18 says."""
    kind, grid = claim[:2]
    if kind == "nearest made":
        row, near, origin = [as_fractions(one) for one in claim[2:] + (paper,)]
        fit = len(origin) == grid[0] and moved(grid, origin) == near
        return fit and not any(read(less_of(row, near), grid))
    if kind == "nearest still":
        row, near, reader = [as_fractions(one) for one in claim[2:] + (paper,)]
        fit = len(reader) == len(grid[1]) and not any(moved(grid, near))
        return fit and read(reader, grid) == less_of(row, near)
    other = claim[2]
    row, made, rest, turned, origin, reader = [as_fractions(one) for one in claim[3:] + paper]
    fit = kind == "parted" and grow_noughts(other, grid) and less_of(less_of(row, made), turned) == rest
    fit = fit and not any(moved(other, rest)) and not any(read(rest, grid))
    fit = fit and len(origin) == grid[0] and len(reader) == len(other[1])
    return fit and moved(grid, origin) == made and read(reader, other) == turned


def holds(claim, paper):
    """Whether the paper shows that the claim is true, by sums and products alone."""
    kind, grid = claim[0], claim[1]
    if kind in ("two sides", "one side"):
        return sides_hold(kind, grid, paper)
    if kind in ("held", "loose", "safe", "confused", "near", "far"):
        return seats_hold(claim, paper)
    if kind in ("nearest made", "nearest still", "parted"):
        return nearest_hold(claim, paper)
    if kind == "group":
        return group_holds(*claim[1:], paper)
    if kind in ("one to one", "lost", "onto", "missed"):
        return led_claim_holds(claim, paper)
    if kind == "exact":
        return exact_holds(*claim[1:], paper)
    if kind == "lesser":
        return lesser_holds(*claim[1:], paper)
    if kind in ("undone", "not undone"):
        return undone_holds(kind, grid, paper)
    if kind == "divisors":
        return divisors_hold(grid, claim[2], paper)
    if kind in ("alike", "unlike"):
        return alike_holds(kind, grid, claim[2], paper)
    if kind == "made":
        return are_numbers(paper, grid[0]) and moved(grid, paper) == claim[2]
    if kind == "barred":
        return bars(grid, claim[2], paper)
    if kind == "made modulo":
        less = [a - b for a, b in zip(moved(grid, paper), claim[2])]
        return are_numbers(paper, grid[0]) and all([is_zero(item, claim[3]) for item in less])
    if kind == "barred modulo":
        return bars(grid, claim[2], (claim[3], paper))
    if kind in ("same lot", "unlike lots"):
        return lots_hold(kind, grid, claim[2], paper)
    assert kind == "kernel"
    return kernel_holds(grid, claim[2], paper)


def undone_pair(size, source, many=6):
    """A grid that is undone, and the grid that undoes it, made of simple steps."""
    grid, back = unit(size), unit(size)
    for _ in range(many if size > 1 else 0):
        row, other = source.sample(range(size), 2)
        number = source.choice((1, -1, 2, -3))
        step = [list(line) for line in unit(size)[1]]
        step[row][other] = number
        undo_step = [list(line) for line in unit(size)[1]]
        undo_step[row][other] = -number
        grid = times((size, tuple([tuple(line) for line in step])), grid)
        back = times(back, (size, tuple([tuple(line) for line in undo_step])))
    if size and source.random() < 0.5:
        sign = [list(line) for line in unit(size)[1]]
        sign[0][0] = -1
        sign = size, tuple([tuple(line) for line in sign])
        grid, back = times(sign, grid), times(back, sign)
    return grid, back


def chain_of(numbers):
    """The integers above 1, each dividing the next one, that tell the same group as these."""
    numbers = list(numbers)
    for at in range(len(numbers)):
        for later in range(at + 1, len(numbers)):
            common = math.gcd(numbers[at], numbers[later])
            numbers[at], numbers[later] = common, numbers[at] * numbers[later] // common
    return tuple([number for number in numbers if number > 1])


def rows_of_blocks(blocks, degrees, source, many=6):
    """Bare rows of blocks, turned by undone grids, and the groups that they have.

    A block (d, 0) is a single place of the degree d; (d, q) is a number q between the degrees d and d + 1.
    """
    sizes, entries, groups = [0] * degrees, [], [[0, []] for _ in range(degrees)]
    for degree, number in blocks:
        if number == 0:
            groups[degree][0] += 1
        else:
            entries.append((degree, sizes[degree], sizes[degree + 1], number))
            groups[degree + 1][1].append(abs(number))
            sizes[degree + 1] += 1
        sizes[degree] += 1
    turns = [undone_pair(size, source, many) for size in sizes]
    grids = []
    for degree in range(degrees - 1):
        rows = [[0] * sizes[degree] for _ in range(sizes[degree + 1])]
        for at, column, row, number in entries:
            if at == degree:
                rows[row][column] = number
        plain = sizes[degree], tuple([tuple(row) for row in rows])
        grids.append(times(times(turns[degree + 1][0], plain), turns[degree][1]))
    return Rows(tuple(sizes), tuple(grids)), tuple([(rank, chain_of(found)) for rank, found in groups])


def known_rows(seed, many, most=6):
    """Bare rows of random blocks with the groups that they have."""
    source = random.Random(seed)
    found = []
    for turn in range(many):
        degrees = source.randint(1, 5)
        blocks = []
        for _ in range(source.randint(0, most)):
            degree = source.randrange(degrees)
            number = source.choice((0, 0, 1, -1, 2, 4, 6, 12, 3, 5))
            blocks.append((degree, number if degree + 1 < degrees else 0))
        found.append(rows_of_blocks(blocks, degrees, source))
    return found


def weighted(space, source, numbers=(1, 1, 1, 2, 3)):
    """A table of rank 1 on the space: the map from a face is the weight of the cell by that of the face."""
    weights = {}
    for cell in space:
        weights[cell] = source.choice(numbers)
        for _, face in told_faces(cell):
            weights[cell] = math.lcm(weights[cell], weights[face])
    maps = {}
    for cell in space:
        for _, face in told_faces(cell):
            maps[(face, cell)] = (1, ((weights[cell] // weights[face],),))
    return Table(space, {cell: 1 for cell in space}, maps)


def told_faces(cell):
    """The pairs (sign, face) of a cell."""
    if len(cell) == 1:
        return []
    return [((-1) ** at, cell[:at] + cell[at + 1:]) for at in range(len(cell))]


def turned_table(table, source):
    """The table, framed by random undone grids."""
    return framed(table, {cell: undone_pair(rank, source, 2)[0] for cell, rank in table.ranks.items()})


def random_tables(seed, many, most=6):
    """Tables on random spaces: weighted ones, sums of them, on stars and parts, framed."""
    source = random.Random(seed)
    found = [TWIST, constant((), 1), constant(ROUND, 1), constant(FILLED, 1), constant(EDGE, 0)]
    for space in spaces(seed, many, most):
        table = weighted(space, source)
        choice = source.randrange(4)
        try:
            if choice == 1 and space:
                table = table_sum(table, on_star(space, source.choice(space), 1))
            elif choice == 2 and space:
                table = table_sum(weighted(space, source), on_parts(space, source.choice(space), 1))
            elif choice == 3:
                table = table_sum(table, weighted(space, source))
        except OverflowError:
            pass
        found.append(turned_table(table, source))
    return found


def degrees_of(table):
    """The degrees of a table."""
    return range(max([len(cell) for cell in table.space], default=1))


def some_row(size, source, most=9):
    """A row of random numbers."""
    return tuple([source.randint(-most, most) for _ in range(size)])


def stills(table, degree, source, many=3):
    """A few still tellings of a degree of a table: sums of a base, made ones among them."""
    grid = rise_grid(table, degree)
    base = transposed(kernel(grid))[1]
    found = [(0,) * grid[0]]
    for _ in range(many):
        row = (0,) * grid[0]
        for maker in base:
            number = source.randint(-2, 2)
            row = tuple([a + number * b for a, b in zip(row, maker)])
        found.append(row)
    if degree > 0:
        low = rise_grid(table, degree - 1)
        found.append(moved(low, some_row(low[0], source, 3)))
    return found


def frames_of(table, source):
    """Random undone grids for all cells, with what undoes them."""
    return {cell: undone_pair(rank, source, 2) for cell, rank in table.ranks.items()}


def turned_by(table, frames):
    """The table led by undone grids at all cells."""
    return Table(table.space, table.ranks, {
        (face, cell): times(times(frames[cell][0], grid), frames[face][1])
        for (face, cell), grid in table.maps.items()})


def random_maps(seed, many):
    """Triples (one, other, lead) of tables and a map: multiples, framed sums, parts put in and taken out."""
    source, found = random.Random(seed), []
    for space in spaces(seed, many, 5):
        one, other = weighted(space, source), weighted(space, source)
        both = table_sum(one, other)
        numbers = [source.choice((0, 1, 2, 3, -2)) for _ in range(2)]
        choice = source.randrange(4)
        if choice == 0:
            triple = one, both, {cell: (1, ((numbers[0],), (0,))) for cell in space}
        elif choice == 1:
            triple = both, other, {cell: (2, ((0, numbers[1]),)) for cell in space}
        elif choice == 2:
            triple = both, both, {cell: (2, ((numbers[0], 0), (0, numbers[1]))) for cell in space}
        else:
            # From constant rank 1 the weights themselves are a map to a weighted table.
            weights = {}
            for cell in space:
                faces = [cell[:at] + cell[at + 1:] for at in range(len(cell))] if len(cell) > 1 else []
                told = [weights[face] * one.maps[(face, cell)][1][0][0] for face in faces]
                weights[cell] = told[0] if told else None
                if not told:
                    weights[cell] = 60
            agree = all([
                weights[cell] == weights[face] * grid[1][0][0] for (face, cell), grid in one.maps.items()])
            lead = {cell: (1, ((weights[cell] if agree else 0,),)) for cell in space}
            triple = constant(space, 1), one, lead
        frames = [frames_of(table, source) for table in triple[:2]]
        tables = [turned_by(table, turns) for table, turns in zip(triple[:2], frames)]
        lead = {cell: times(times(frames[1][cell][0], triple[2][cell]), frames[0][cell][1]) for cell in space}
        found.append((tables[0], tables[1], lead))
    return found
