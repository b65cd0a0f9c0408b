"""Forms of what stands in claims and papers: integers and rows of any length, grids of at most 120 rows and columns."""

from gluewhole.base.exact import is_nought_grid, plain_product
from gluewhole.base.numbers import are_long_integers, is_grid_up_to, is_long_integer

MOST_WIDE = 120
MOST_DEGREES = 5


def is_least(value, least):
    """Whether the value is an integer from the least one on."""
    return is_long_integer(value) and value >= least


def is_tuple(value, length):
    """Whether the value is a tuple of this length."""
    return isinstance(value, tuple) and len(value) == length


def are_integers(value):
    """Whether the value is a tuple of integers."""
    return isinstance(value, tuple) and are_long_integers(value)


def is_told_row(value, length):
    """Whether the value is a tuple of so many integers."""
    return isinstance(value, tuple) and len(value) == length and are_long_integers(value)


def is_told_grid(value):
    """Whether the value is a grid."""
    return is_grid_up_to(value, MOST_WIDE)


def is_told_sized(value, width, height):
    """Whether the value is a grid of this width and height."""
    return is_told_grid(value) and value[0] == width and len(value[1]) == height


def are_told_grids(value, many):
    """Whether the value is a tuple of so many grids."""
    return is_tuple(value, many) and all([is_told_grid(grid) for grid in value])


def is_chain(value, least):
    """Whether the value is a tuple of integers from the least one on, each of which divides the next one."""
    if not are_integers(value) or not all([number >= least for number in value]):
        return False
    return all([behind % ahead == 0 for ahead, behind in zip(value, value[1:])])


def are_told_sizes(value):
    """Whether the value is a tuple of one to five sizes of bare rows."""
    if not are_integers(value) or not 1 <= len(value) <= MOST_DEGREES:
        return False
    return all([0 <= size <= MOST_WIDE for size in value])


def are_bare(sizes, value):
    """Whether the value is a tuple of grids that make bare rows with these sizes."""
    if not is_tuple(value, len(sizes) - 1):
        return False
    if not all([is_told_sized(grid, width, height) for grid, width, height in zip(value, sizes, sizes[1:])]):
        return False
    return all([is_nought_grid(plain_product(behind, ahead)) for ahead, behind in zip(value, value[1:])])
