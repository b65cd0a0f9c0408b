"""Integers, rows and grids, with checks of what is passed."""

from gluewhole.base.exact import bezout, is_multiple, plain_beside, plain_difference, plain_dot, plain_led
from gluewhole.base.exact import plain_multiple, plain_nought, plain_product, plain_read, plain_sum, plain_turned
from gluewhole.base.exact import plain_unit, row_less, row_more
from gluewhole.errors import InvalidGrid, InvalidNumber, InvalidOperation, InvalidRow, TooMany

MAX_DIGITS = 12
MAX_SIZE = 60
# The least integer above 0 that has more digits than MAX_DIGITS.
TOO_LONG = 1000000000000


def is_long_integer(value):
    """Whether the value is an integer of any length."""
    return isinstance(value, int) and value is not True and value is not False


def are_long_integers(values):
    """Whether all of some values are integers of any length.

    So many of them are looked at that a call for each one would take most of the time.
    """
    return all([isinstance(value, int) and value is not True and value is not False for value in values])


def have_integers(rows):
    """Whether all items of some tuples are integers of any length."""
    return all([isinstance(item, int) and item is not True and item is not False for row in rows for item in row])


def are_short(numbers):
    """Whether all of some integers have at most 12 digits."""
    return max(numbers, default=0) < TOO_LONG and min(numbers, default=0) > -TOO_LONG


def is_integer(value):
    """Whether the value is an integer of at most 12 digits."""
    return is_long_integer(value) and abs(value) < TOO_LONG


def is_between(value, least, greatest):
    """Whether the value is an integer from the least to the greatest one."""
    return is_integer(value) and least <= value <= greatest


def is_long_row(value):
    """Whether the value is a row of at most 60 integers of any length."""
    return isinstance(value, tuple) and len(value) <= MAX_SIZE and are_long_integers(value)


def is_row(value):
    """Whether the value is a row of at most 60 integers of at most 12 digits."""
    return is_long_row(value) and are_short(value)


def is_grid_up_to(value, most):
    """Whether the value is a grid of integers of any length, as wide and high as told at most."""
    if not isinstance(value, tuple) or len(value) != 2:
        return False
    width, rows = value
    if not is_long_integer(width) or not 0 <= width <= most or not isinstance(rows, tuple) or len(rows) > most:
        return False
    return all([isinstance(row, tuple) and len(row) == width for row in rows]) and have_integers(rows)


def is_long_grid(value):
    """Whether the value is a grid of integers of any length, at most 60 wide and high."""
    return is_grid_up_to(value, MAX_SIZE)


def is_sized(value, width, height):
    """Whether the value is a grid of this width and height, with integers of any length."""
    return is_long_grid(value) and value[0] == width and len(value[1]) == height


def is_grid(value):
    """Whether the value is a grid of integers of at most 12 digits, at most 60 wide and high."""
    return is_long_grid(value) and all([are_short(row) for row in value[1]])


def check_row(value):
    """InvalidRow unless the value is a row."""
    if not is_row(value):
        raise InvalidRow("a row is a tuple of at most 60 integers of at most twelve digits")


def check_grid(value):
    """InvalidGrid unless the value is a grid."""
    if not is_grid(value):
        raise InvalidGrid("a grid is a pair of a width up to 60 and of at most 60 rows of this length")


def check_grids(one, other):
    """InvalidGrid for the first of two values that is no grid."""
    check_grid(one)
    check_grid(other)


def check_integer(value):
    """InvalidNumber unless the value is an integer of at most 12 digits."""
    if not is_integer(value):
        raise InvalidNumber(value)


def check_between(value, least, greatest):
    """InvalidNumber unless the value is an integer from the least to the greatest one."""
    if not is_between(value, least, greatest):
        raise InvalidNumber(value)


def check_least(value, least):
    """InvalidNumber unless the value is an integer from the least one on."""
    if not is_integer(value) or value < least:
        raise InvalidNumber(value)


def check_fit(fits, reason):
    """InvalidOperation, with the reason, unless the arguments fit."""
    if not fits:
        raise InvalidOperation(reason)


def check_rows(one, other):
    """The errors of functions of two rows of one length."""
    check_row(one)
    check_row(other)
    check_fit(len(one) == len(other), "the rows have unlike lengths")


def dot(one, other):
    """The sum of the products, place by place."""
    check_rows(one, other)
    return plain_dot(one, other)


def row_sum(one, other):
    """The sum of two rows."""
    check_rows(one, other)
    return row_more(one, other)


def row_difference(one, other):
    """The first row less the second one."""
    check_rows(one, other)
    return row_less(one, other)


def row_multiple(row, number):
    """The row times an integer."""
    check_row(row)
    check_integer(number)
    return tuple([number * item for item in row])


def is_nought(value, modulus):
    """Whether the value is an integer that counts as 0 by the modulus; by 0 just 0 does."""
    check_least(modulus, 0)
    if not is_integer(value):
        return False
    return is_multiple(value, modulus)


def shared(one, other):
    """Integers (u, v, g) of which u times one and v times other add up to the greatest common divisor g."""
    check_integer(one)
    check_integer(other)
    return bezout(one, other)


def unit_grid(size):
    """The unit grid of a size."""
    check_between(size, 0, MAX_SIZE)
    return plain_unit(size)


def nought_grid(height, width):
    """The grid with 0 alone."""
    check_between(height, 0, MAX_SIZE)
    check_between(width, 0, MAX_SIZE)
    return plain_nought(height, width)


def turned(grid):
    """The grid with rows and columns exchanged."""
    check_grid(grid)
    return plain_turned(grid)


def grid_multiple(grid, number):
    """The grid times an integer."""
    check_grid(grid)
    check_integer(number)
    return plain_multiple(grid, number)


def check_like(one, other):
    """The errors of functions of two grids of one width and one height."""
    check_grids(one, other)
    check_fit(one[0] == other[0] and len(one[1]) == len(other[1]), "the grids have unlike widths or heights")


def grid_sum(one, other):
    """The sum of two grids."""
    check_like(one, other)
    return plain_sum(one, other)


def grid_difference(one, other):
    """The first grid less the second one."""
    check_like(one, other)
    return plain_difference(one, other)


def grid_product(one, other):
    """The product of two grids: leading by it is leading by the second one and then by the first one."""
    check_grids(one, other)
    check_fit(one[0] == len(other[1]), "the first grid is not as wide as the second one is high")
    return plain_product(one, other)


def check_most(size):
    """TooMany(60) if a grid would be greater than grids are."""
    if size > MAX_SIZE:
        raise TooMany(MAX_SIZE)


def beside(one, other):
    """The grid with the columns of both, those of the first one ahead."""
    check_grids(one, other)
    check_fit(len(one[1]) == len(other[1]), "the grids have unlike heights")
    check_most(one[0] + other[0])
    return plain_beside(one, other)


def over(one, other):
    """The grid with the rows of both, those of the first one ahead."""
    check_grids(one, other)
    check_fit(one[0] == other[0], "the grids have unlike widths")
    check_most(len(one[1]) + len(other[1]))
    return one[0], one[1] + other[1]


def led(grid, row):
    """What the grid leads the row to."""
    check_grid(grid)
    check_row(row)
    check_fit(len(row) == grid[0], "the row is not as long as the grid is wide")
    return plain_led(grid, row)


def read_by(row, grid):
    """The sum of the rows of the grid, each times an integer of the row."""
    check_row(row)
    check_grid(grid)
    check_fit(len(row) == len(grid[1]), "the row is not as long as the grid is high")
    return plain_read(row, grid)
