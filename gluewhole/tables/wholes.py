"""Wholes: their bases, what they say, and how told parts are put together to one, or barred."""

from gluewhole.base.exact import plain_columns, plain_grid, plain_led, plain_unit
from gluewhole.base.made import makes_all, plain_kernel, plain_made_answer, told_by
from gluewhole.errors import InvalidCell, InvalidSpace, InvalidTelling, Refused
from gluewhole.space.spaces import check_cell_of, is_lot, plain_cells, plain_is_sub
from gluewhole.tables.tables import check_table, plain_restricted
from gluewhole.tables.tellings import is_long_still, is_telling_of, is_told, plain_rise_grid, plain_size, plain_spots


def check_whole(table, value):
    """InvalidTelling unless the value is a whole with integers of at most 12 digits."""
    if not is_telling_of(table, 0, value) or not is_long_still(table, 0, value):
        raise InvalidTelling("this is no whole of the table")


def check_told(table, value):
    """InvalidTelling unless the value is a dict from cells of the degree 0 to rows of their ranks."""
    if not is_told(table, 0, value):
        raise InvalidTelling("this is no dict from points to rows of their ranks")


def check_sub_space(table, value):
    """InvalidSpace unless the value is a sub-space of the space of the table."""
    if not plain_is_sub(table.space, value):
        raise InvalidSpace("this is no sub-space of the space of the table")


def whole_base(table):
    """Some wholes of which each whole is the sum of multiples in just one way."""
    check_table(table)
    return plain_columns(plain_kernel(plain_rise_grid(table, 0)))


def is_whole_base(table, value):
    """Whether the value is a base of the wholes."""
    check_table(table)
    if not isinstance(value, tuple) or not all([is_long_still(table, 0, whole) for whole in value]):
        return False
    base = plain_kernel(plain_rise_grid(table, 0))
    if len(value) != base[0]:
        return False
    wholes = len(value), plain_columns(plain_grid(value, plain_size(table, 0)))
    return makes_all(told_by(base, wholes))


def says(table, whole, cell):
    """What a whole says at a cell: what the first point of the cell says there."""
    check_table(table)
    check_whole(table, whole)
    check_cell_of(table.space, cell)
    begin, end = plain_spots(table, 0)[cell[:1]]
    return plain_led(table.led_by(cell[:1], cell), whole[begin:end])


def plain_board(table, points):
    """As board, without checks."""
    low, spots = plain_rise_grid(table, 0), plain_spots(table, 0)
    units = plain_unit(low[0])[1]
    told = [units[at] for point in points for at in range(spots[point][0], spots[point][1])]
    return plain_grid(list(low[1]) + told, low[0])


def board(table, points):
    """The grid with the rows of R(0) and, below them, a row for each number of some points."""
    check_table(table)
    cells = plain_cells(table.space, 0)
    if not is_lot(points) or not all([point in cells for point in points]):
        raise InvalidCell("these are no ascending cells of the degree 0")
    return plain_board(table, points)


def plain_wish(table, told):
    """As wish, without checks."""
    row = [0] * plain_size(table, 1)
    for point in sorted(told):
        row.extend(list(told[point]))
    return tuple(row)


def wish(table, told):
    """The noughts for the rows of R(0), and behind them the told numbers."""
    check_table(table)
    check_told(table, told)
    return plain_wish(table, told)


def extend_answer(table, told):
    """Whether some whole says what is told: the claim that is true, with the whole or a reading as its paper."""
    check_table(table)
    check_told(table, told)
    return plain_made_answer(plain_board(table, sorted(told)), plain_wish(table, told))


def plain_cover_fault(space, one, other):
    """As cover_fault, for a space."""
    bare = [cell for cell in space if cell not in one and cell not in other]
    return bare[0] if bare else None


def cover_fault(table, one, other):
    """The first cell that is in none of two sub-spaces, None if they cover the space."""
    check_table(table)
    check_sub_space(table, one)
    check_sub_space(table, other)
    return plain_cover_fault(table.space, one, other)


def said(table, sub, whole):
    """The dict from the points of a sub-space to what a whole of the table on it says there."""
    spots = plain_spots(plain_restricted(table, sub), 0)
    return {point: whole[begin:end] for point, (begin, end) in spots.items()}


def put_together(table, one, first, other, last):
    """The whole that says on two sub-spaces, which cover the space, what a whole of each one says."""
    check_table(table)
    check_sub_space(table, one)
    check_whole(plain_restricted(table, one), first)
    check_sub_space(table, other)
    check_whole(plain_restricted(table, other), last)
    bare = plain_cover_fault(table.space, one, other)
    if bare is not None:
        raise Refused(("bare", bare))
    ahead, behind = said(table, one, first), said(table, other, last)
    row = []
    for point in plain_cells(table.space, 0):
        if point in ahead and point in behind and ahead[point] != behind[point]:
            raise Refused(("unlike", point))
        row.extend(list(ahead[point] if point in ahead else behind[point]))
    return tuple(row)
