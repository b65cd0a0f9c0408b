"""What a grid makes and what bars it, the lots of its rows, and what it leads to noughts."""

from math import gcd

from gluewhole.base.diagonal import made_diagonal
from gluewhole.base.exact import are_multiples, bar_of, bezout, is_multiple, plain_difference, plain_dot, plain_grid
from gluewhole.base.exact import plain_led, plain_product, plain_read, plain_turned, plain_unit, solved_up
from gluewhole.base.exact import stairs_and_change, stairs_of, told_off, turned_rows_of
from gluewhole.base.numbers import check_fit, check_grid, check_grids, check_least, check_row
from gluewhole.base.numbers import is_long_grid, is_long_integer, is_long_row
from gluewhole.errors import InvalidGrid, InvalidRow


def check_as_high(grid, row):
    """InvalidOperation unless the row has as many integers as the grid has rows."""
    check_fit(len(row) == len(grid[1]), "the row is not as long as the grid is high")


def combined(many, change, width):
    """The sum of the first rows of a change, each as often as told."""
    return plain_led(plain_turned(plain_grid(change[:len(many)], width)), many)


def plain_made_answer(grid, row):
    """As made_answer, of integers of any length."""
    width, rows = grid
    leads, steps, change = stairs_and_change(turned_rows_of(rows, width), len(rows))
    many, rest = told_off(leads, steps, row)
    if any(rest):
        return ("barred", grid, row), bar_of(leads, steps, rest)
    return ("made", grid, row), combined(many, change, width)


def made_answer(grid, row):
    """Whether the grid makes the row: the true claim, with a paper."""
    check_grid(grid)
    check_row(row)
    check_as_high(grid, row)
    return plain_made_answer(grid, row)


def made_modulo_answer(grid, row, m):
    """Whether the grid makes the row modulo m: the true claim, with a paper.

    For U A V diagonal, x is V z, and each divisor times its number of z is that of U y modulo m.
    """
    check_grid(grid)
    check_row(row)
    check_least(m, 1)
    check_as_high(grid, row)
    found, left, right = made_diagonal(grid)
    wish = plain_led(left, row)
    numbers = list(found) + [0] * (len(row) - len(found))
    path = [0] * grid[0]
    for at, number in enumerate(numbers):
        divisor = gcd(number, m)
        if wish[at] % divisor != 0:
            bar = tuple([m // divisor * item % m for item in left[1][at]])
            return ("barred modulo", grid, row, m), bar
        if number != 0:
            path[at] = wish[at] // divisor * inverse_modulo(number // divisor, m // divisor)
    return ("made modulo", grid, row, m), tuple([item % m for item in plain_led(right, path)])


def inverse_modulo(number, m):
    """The integer that times this one is 1 modulo m, both without a common divisor."""
    return bezout(number, m)[0] % m


def stairs(grid):
    """The grid of stairs with the same lot."""
    check_grid(grid)
    return plain_grid(stairs_of(grid[1])[1], grid[0])


def made_of(told, rows, height):
    """The rows by those of which stairs are told: a grid of numbers, or (index, bar) of the first that is barred."""
    leads, steps, change = told
    found = []
    for index, row in enumerate(rows):
        many, rest = told_off(leads, steps, row)
        if any(rest):
            return None, (index, bar_of(leads, steps, rest))
        found.append(combined(many, change, height))
    return plain_grid(found, height), None


def lots_answer(one, other):
    """Whether two grids have the same lot: the true claim, with a paper."""
    check_grids(one, other)
    check_fit(one[0] == other[0], "the grids have unlike widths")
    told = stairs_and_change(one[1], one[0])
    ahead, fault = made_of(told, other[1], len(one[1]))
    if fault is not None:
        return ("unlike lots", one, other), (1, fault[0], fault[1])
    told = stairs_and_change(other[1], other[0])
    back, fault = made_of(told, one[1], len(other[1]))
    if fault is not None:
        return ("unlike lots", one, other), (0, fault[0], fault[1])
    return ("same lot", one, other), (ahead, back)


def plain_kernel(grid):
    """As kernel, of integers of any length."""
    width, rows = grid
    leads, _, change = stairs_and_change(turned_rows_of(rows, width), len(rows))
    return plain_turned(plain_grid(change[len(leads):], width))


def kernel(grid):
    """The base of what the grid leads to noughts that is stairs, turned."""
    check_grid(grid)
    return plain_kernel(grid)


def undone_ahead(base):
    """The grid that times this one is the unit; the lot of its rows has to have all rows."""
    return plain_grid(stairs_and_change(base[1], base[0])[2][:base[0]], len(base[1]))


def undone_behind(grid):
    """A grid that this one times it is the unit; the lot of its columns has to have all rows."""
    return plain_turned(undone_ahead(plain_turned(grid)))


def makes_all(grid):
    """Whether the grid makes each row that is as long as it is high."""
    height = len(grid[1])
    return plain_grid(stairs_of(turned_rows_of(grid[1], grid[0]))[1], height) == plain_unit(height)


def told_by(base, grid):
    """The coordinates, by stairs that are turned, of the columns of a grid, as the columns of a grid."""
    steps = plain_turned(base)[1]
    leads = leads_of(steps)
    columns = [told_off(leads, steps, column)[0] for column in turned_rows_of(grid[1], grid[0])]
    return plain_turned(plain_grid(columns, base[0]))


def columns_made(grid, wanted):
    """The grid that this one leads to the wanted one, or (index, bar) of the first column that it bars."""
    told = stairs_and_change(turned_rows_of(grid[1], grid[0]), len(grid[1]))
    made, fault = made_of(told, turned_rows_of(wanted[1], wanted[0]), grid[0])
    return (None, fault) if made is None else (plain_turned(made), None)


def is_reading(grid, value):
    """Whether the value is a pair (m, row) of which the row reads the grid to noughts modulo m."""
    if not isinstance(value, tuple) or len(value) != 2:
        return False
    m, row = value
    if not is_long_integer(m) or m < 0 or not is_long_row(row) or len(row) != len(grid[1]):
        return False
    return are_multiples(plain_read(row, grid), m)


def is_bar(grid, row, value):
    """Whether the value is a pair that bars the row."""
    return is_reading(grid, value) and not is_multiple(plain_dot(value[1], row), value[0])


def undone_above(leads, steps):
    """Integers (n, rows), n above 0: the steps, at their leads alone, times the rows are n times the unit."""
    size = len(leads)
    solved = [solved_up(leads, steps, goal) for goal in plain_unit(size)[1]]
    n = 1
    for m, _ in solved:
        n = n // gcd(n, m) * m
    columns = [[n // m * item for item in column] for m, column in solved]
    return n, turned_rows_of(columns, size)


def plain_kernel_answer(grid):
    """As kernel_answer, of integers of any length.

    The rows of the unit less K L are sums of fractions of the rows of the grid, as both make the same rows
    0: so they are told by what they have at the leads of its stairs.
    """
    width, rows = grid
    base = plain_kernel(grid)
    undo = undone_ahead(base)
    leads, steps, change = stairs_and_change(rows, width)
    n, above = undone_above(leads, steps)
    rest = plain_difference(plain_unit(width), plain_product(base, undo))
    at_leads = plain_grid([[row[at] for at in leads] for row in rest[1]], len(leads))
    by_steps = plain_product(at_leads, plain_grid(above, len(leads)))
    further = plain_product(by_steps, plain_grid(change[:len(leads)], len(rows)))
    return ("kernel", grid, base), (n, undo, further)


def kernel_answer(grid):
    """The claim that tells the base of the kernel that is stairs, turned, with a paper."""
    check_grid(grid)
    return plain_kernel_answer(grid)


def leads_of(rows):
    """The places of the leads of rows that are not all 0."""
    return [[at for at, number in enumerate(row) if number != 0][0] for row in rows]


def is_stairs(rows):
    """Whether the rows are stairs."""
    if not all([any(row) for row in rows]):
        return False
    leads = leads_of(rows)
    for place, at in enumerate(leads):
        lead = rows[place][at]
        if lead < 1 or not all([0 <= row[at] < lead for row in rows[:place]]):
            return False
    return all([ahead < behind for ahead, behind in zip(leads, leads[1:])])


def coordinates(base, row):
    """The row that the base, stairs that are turned, leads to this row, or None."""
    if not is_long_grid(base) or not is_stairs(plain_turned(base)[1]):
        raise InvalidGrid("the base is not stairs, turned")
    if not is_long_row(row):
        raise InvalidRow("the row is no row of integers")
    check_as_high(base, row)
    steps = plain_turned(base)[1]
    many, rest = told_off(leads_of(steps), steps, row)
    return None if any(rest) else tuple(many)
