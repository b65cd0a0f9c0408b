"""Tellings on tables and their rises."""

from gluewhole.base.exact import plain_grid, plain_led
from gluewhole.base.numbers import check_between, is_long_row, is_row
from gluewhole.errors import InvalidCell, InvalidRow, InvalidTelling
from gluewhole.space.spaces import check_cell_of, is_cell, plain_cells, plain_degree, plain_faces
from gluewhole.tables.tables import check_table, plain_sizes, told_maps, told_ranks


def check_degree(table, degree):
    """InvalidTable, and InvalidNumber unless the degree is one of the table."""
    check_table(table)
    check_between(degree, 0, max(plain_degree(table.space), 0))


def plain_spots(table, degree):
    """The dict from the cells of a degree to the pairs (begin, end) of the indices of their numbers."""
    ranks, found, begin = told_ranks(table), {}, 0
    for cell in plain_cells(table.space, degree):
        found[cell] = (begin, begin + ranks[cell])
        begin += ranks[cell]
    return found


def plain_size(table, degree):
    """How many numbers a telling of the degree has: none, if no cell has this degree."""
    ranks = told_ranks(table)
    return sum([ranks[cell] for cell in plain_cells(table.space, degree)])


def is_telling_of(table, degree, value):
    """Whether the value is a telling of the degree, with integers of at most 12 digits."""
    return is_row(value) and len(value) == plain_size(table, degree)


def check_telling(table, degree, telling):
    """InvalidTelling unless the value is a telling of the degree, with integers of at most 12 digits."""
    if not is_telling_of(table, degree, telling):
        raise InvalidTelling("this is no telling of the degree")


def check_cell_at(table, degree, cell):
    """InvalidCell unless the value is a cell of the table's space, of the degree."""
    check_cell_of(table.space, cell)
    if len(cell) != degree + 1:
        raise InvalidCell("the cell has another degree")


def plain_rise_grid(table, degree):
    """The grid R(d)."""
    maps, ranks, spots_below, rows = told_maps(table), told_ranks(table), plain_spots(table, degree), []
    width = max([end for _, end in spots_below.values()], default=0)
    for cell in plain_cells(table.space, degree + 1):
        told = [(sign, spots_below[face], maps[(face, cell)][1]) for sign, face in plain_faces(cell)]
        for place in range(ranks[cell]):
            row = [0] * width
            for sign, (begin, end), lines in told:
                row[begin:end] = lines[place] if sign == 1 else [-number for number in lines[place]]
            rows.append(row)
    return plain_grid(rows, width)


def sizes(table):
    """The tuple of the sizes of the degrees from 0 to the greatest one."""
    check_table(table)
    return plain_sizes(table.space, table.ranks)


def spots(table, degree):
    """The dict, in the sequence of the space, from the cells of the degree to where their numbers begin and end."""
    check_degree(table, degree)
    return plain_spots(table, degree)


def is_long_telling(table, degree, value):
    """Whether the value is a telling of the degree, with integers of any length."""
    return is_long_row(value) and len(value) == plain_size(table, degree)


def is_telling(table, degree, value):
    """Whether the value is a telling of the degree, with integers of any length."""
    check_degree(table, degree)
    return is_long_telling(table, degree, value)


def is_long_still(table, degree, value):
    """Whether the value is a still telling of any degree, with integers of any length."""
    return is_long_telling(table, degree, value) and not any(plain_led(plain_rise_grid(table, degree), value))


def is_still(table, degree, value):
    """Whether the value is a telling of the degree whose rise has noughts alone."""
    check_degree(table, degree)
    return is_long_still(table, degree, value)


def rise_grid(table, degree):
    """The grid that leads each telling of the degree to its rise."""
    check_degree(table, degree)
    return plain_rise_grid(table, degree)


def rise(table, degree, telling):
    """The rise of a telling."""
    check_degree(table, degree)
    check_telling(table, degree, telling)
    return plain_led(plain_rise_grid(table, degree), telling)


def part(table, degree, telling, cell):
    """The numbers of a telling at a cell."""
    check_degree(table, degree)
    check_telling(table, degree, telling)
    check_cell_at(table, degree, cell)
    begin, end = plain_spots(table, degree)[cell]
    return telling[begin:end]


def is_told(table, degree, told):
    """Whether the value is a dict from cells of the degree to rows with as many numbers as their ranks."""
    if not isinstance(told, dict) or not all([is_cell(cell) for cell in told]):
        return False
    ranks, cells = table.ranks, plain_cells(table.space, degree)
    return all([cell in cells and is_row(row) and len(row) == ranks[cell] for cell, row in told.items()])


def on_cells(table, degree, told):
    """The telling that has told rows at some cells, and noughts elsewhere."""
    check_degree(table, degree)
    if not is_told(table, degree, told):
        raise InvalidTelling("this is no dict from cells of the degree to rows of their ranks")
    row = [0] * plain_size(table, degree)
    for cell, (begin, end) in plain_spots(table, degree).items():
        if cell in told:
            row[begin:end] = told[cell]
    return tuple(row)


def carrier(table, degree, telling):
    """The cells at which a telling has a number other than 0, ascending."""
    check_degree(table, degree)
    check_telling(table, degree, telling)
    return tuple([cell for cell, (begin, end) in plain_spots(table, degree).items() if any(telling[begin:end])])


def spread(table, degree, cell, row, goal):
    """What a row at a cell of the degree says at a cell of which this one is a part."""
    check_degree(table, degree)
    check_cell_at(table, degree, cell)
    if not is_row(row) or len(row) != table.ranks[cell]:
        raise InvalidRow("the row has not as many numbers as the rank of the cell")
    return plain_led(table.led_by(cell, goal), row)
