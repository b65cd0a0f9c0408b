"""Maps of bare rows and of tables: where they lead tellings and groups, their kernels and images."""

from gluewhole.base.exact import is_nought_grid, plain_beside, plain_columns, plain_grid, plain_led, plain_product
from gluewhole.base.exact import plain_turned, stairs_of, turned_rows_of
from gluewhole.base.made import columns_made, makes_all, plain_kernel, plain_kernel_answer, told_by
from gluewhole.base.numbers import check_fit, is_sized
from gluewhole.errors import InvalidMap
from gluewhole.space.spaces import plain_cells, plain_degree
from gluewhole.tables.groups import Makers, check_bare, check_degree_of, check_telling_in
from gluewhole.tables.tables import Table, are_just, ascending, built, check_tables
from gluewhole.tables.tellings import plain_size, plain_spots


def check_like_rows(some):
    """InvalidRows for the first one that is none, then InvalidOperation unless all have equally many degrees."""
    for rows in some:
        check_bare(rows)
    fits = all([len(rows) == len(some[0]) for rows in some])
    check_fit(fits, "the rows have not equally many degrees")


def plain_is_rows_map(one, other, value):
    """As is_rows_map, for two bare rows of equally many degrees."""
    if not isinstance(value, tuple) or len(value) != len(one):
        return False
    if not all([is_sized(grid, width, height) for grid, width, height in zip(value, one.sizes, other.sizes)]):
        return False
    ahead = [plain_product(grid, low) for grid, low in zip(value[1:], one.grids)]
    return ahead == [plain_product(low, grid) for grid, low in zip(value, other.grids)]


def is_rows_map(one, other, value):
    """Whether the value is a map of rows from one to other, with integers of any length."""
    check_like_rows((one, other))
    return plain_is_rows_map(one, other, value)


def check_rows_map(one, other, lead):
    """InvalidMap unless the value is a map from one to other."""
    if not plain_is_rows_map(one, other, lead):
        raise InvalidMap("this is no map of the bare rows")


def plain_is_table_map(one, other, value):
    """As is_table_map, for two tables on one space."""
    left, right = one.ranks, other.ranks
    if not are_just(one.space, value):
        return False
    if not all([is_sized(value[cell], left[cell], right[cell]) for cell in one.space]):
        return False
    low, high = one.maps, other.maps
    for face, cell in low:
        if plain_product(value[cell], low[(face, cell)]) != plain_product(high[(face, cell)], value[face]):
            return False
    return True


def is_table_map(one, other, value):
    """Whether the value is a map of tables from one to other, with integers of any length."""
    check_tables(one, other)
    return plain_is_table_map(one, other, value)


def check_table_map(one, other, lead):
    """InvalidMap unless the value is a map of tables from one to other."""
    if not plain_is_table_map(one, other, lead):
        raise InvalidMap("this is no map of the tables")


def map_at(one, lead, degree):
    """The grid that leads the tellings of a degree by a map of tables, cell by cell."""
    spots, rows = plain_spots(one, degree), []
    width = plain_size(one, degree)
    for cell in plain_cells(one.space, degree):
        begin, end = spots[cell]
        rows.extend([(0,) * begin + line + (0,) * (width - end) for line in lead[cell][1]])
    return plain_grid(rows, width)


def check_led_tables(one, other, lead):
    """The errors of functions of a map of tables."""
    check_tables(one, other)
    check_table_map(one, other, lead)


def rows_map(one, other, lead):
    """The map of the bare rows of two tables that a map of tables tells."""
    check_led_tables(one, other, lead)
    degrees = range(max(plain_degree(one.space), 0) + 1)
    return tuple([map_at(one, lead, degree) for degree in degrees])


def check_led_rows(one, other, lead, degree):
    """The errors of functions of a map of bare rows and of a degree."""
    check_like_rows((one, other))
    check_rows_map(one, other, lead)
    check_degree_of(one, degree)


def led(one, other, lead, degree, telling):
    """What a map of rows leads a telling to."""
    check_led_rows(one, other, lead, degree)
    check_telling_in(one, degree, telling)
    return plain_led(lead[degree], telling)


def led_on(one, middle, other, first, last):
    """The map of rows by the first one and then by the last one."""
    check_like_rows((one, middle, other))
    check_rows_map(one, middle, first)
    check_rows_map(middle, other, last)
    return tuple([plain_product(behind, ahead) for ahead, behind in zip(first, last)])


def led_group(one, other, lead, degree):
    """The grid whose columns are the coordinates of what the makers of one are led to, by the makers of other."""
    check_led_rows(one, other, lead, degree)
    ahead, behind = Makers(one, degree), Makers(other, degree)
    found = [behind.coordinates(plain_led(lead[degree], maker)) for maker in ahead.makers]
    return plain_turned(plain_grid(found, len(behind)))


def one_to_one_answer(one, other, lead, degree):
    """Whether just made ones of all still tellings are led to made ones: the claim that is true, with a paper.

    All still tellings that are led to made ones are told by what the second kernel has at the first one's columns.
    """
    check_led_rows(one, other, lead, degree)
    members = one.grid(degree - 1), one.grid(degree), other.grid(degree - 1), lead[degree]
    low, high, under, along = members
    claim, paper = plain_kernel_answer(high)
    base = claim[2]
    claim, further = plain_kernel_answer(plain_beside(plain_product(along, base), under))
    both = claim[2]
    wanted = plain_product(base, (both[0], both[1][:base[0]]))
    made, fault = columns_made(low, wanted)
    if fault is None:
        return ("one to one",) + members, (base, paper, both, further, made)
    at, (m, row) = fault
    origin = tuple([-number for number in plain_columns(both)[at][base[0]:]])
    return ("lost",) + members, (plain_columns(wanted)[at], origin, m, row)


def onto_answer(one, other, lead, degree):
    """Whether each still telling of other is alike to one that is led to: the claim that is true, with a paper."""
    check_led_rows(one, other, lead, degree)
    members = one.grid(degree), other.grid(degree - 1), other.grid(degree), lead[degree]
    high, under, above, along = members
    ahead, paper = plain_kernel_answer(high)
    behind, further = plain_kernel_answer(above)
    base, goal = ahead[2], behind[2]
    made, fault = columns_made(plain_beside(plain_product(along, base), under), goal)
    if fault is None:
        origins = plain_product(base, (made[0], made[1][:base[0]]))
        return ("onto",) + members, (goal, further, origins, (made[0], made[1][base[0]:]))
    at, (m, row) = fault
    return ("missed",) + members, (plain_columns(goal)[at], base, paper, m, row)


def base_of_columns(grid):
    """The stairs, turned, that make the same rows as the columns of the grid."""
    height = len(grid[1])
    return plain_turned(plain_grid(stairs_of(turned_rows_of(grid[1], grid[0]))[1], height))


def table_within(table, into):
    """The table whose columns, at each cell some stairs that are turned, the maps of a table lead to one another."""
    maps, grids = table.maps, {}
    for face, cell in maps:
        grids[(face, cell)] = told_by(into[cell], plain_product(maps[(face, cell)], into[face]))
    return built(table.space, {cell: into[cell][0] for cell in table.space}, grids)


def kernel_table(one, other, lead):
    """The table of what a map of tables leads to noughts, and the map from it into one."""
    check_led_tables(one, other, lead)
    into = ascending({cell: plain_kernel(lead[cell]) for cell in one.space})
    return table_within(one, into), into


def is_table_on(space, value):
    """Whether the value is a table on the space."""
    return isinstance(value, Table) and value.space == space


def is_kernel_base(grid, base):
    """Whether the columns of the base are a base of what the grid leads to noughts."""
    kernel = plain_kernel(grid)
    if base[0] != kernel[0] or not is_nought_grid(plain_product(grid, base)):
        return False
    return makes_all(told_by(kernel, base))


def is_kernel_table(one, other, lead, value):
    """Whether the value is a table of what a map of tables leads to noughts, with the map from it into one."""
    check_led_tables(one, other, lead)
    if not isinstance(value, tuple) or len(value) != 2:
        return False
    table, into = value
    if not is_table_on(one.space, table) or not plain_is_table_map(table, one, into):
        return False
    return all([is_kernel_base(lead[cell], into[cell]) for cell in one.space])


def image_table(one, other, lead):
    """The table of what a map of tables leads to, the map from one onto it, and that from it into other."""
    check_led_tables(one, other, lead)
    into = ascending({cell: base_of_columns(lead[cell]) for cell in one.space})
    onto = {cell: told_by(into[cell], lead[cell]) for cell in into}
    return table_within(other, into), onto, into


def is_one_to_one(grid):
    """Whether the grid leads just noughts to noughts."""
    return len(stairs_of(grid[1])[0]) == grid[0]


def is_image_table(one, other, lead, value):
    """Whether the value is a table of what a map of tables leads to, with the maps onto it and into other."""
    check_led_tables(one, other, lead)
    if not isinstance(value, tuple) or len(value) != 3:
        return False
    table, onto, into = value
    if not is_table_on(one.space, table) or not plain_is_table_map(one, table, onto):
        return False
    if not plain_is_table_map(table, other, into):
        return False
    cells = one.space
    if not all([plain_product(into[cell], onto[cell]) == lead[cell] for cell in cells]):
        return False
    return all([makes_all(onto[cell]) and is_one_to_one(into[cell]) for cell in cells])
