"""Walks on local tables: what paths lead to, told rounds, and the rows that these leave as they are."""

from gluewhole.base.exact import is_nought_grid, is_undone, plain_difference, plain_grid, plain_led, plain_product
from gluewhole.base.exact import plain_unit, undoing
from gluewhole.base.made import plain_kernel
from gluewhole.base.numbers import check_fit, is_long_grid, is_row
from gluewhole.errors import InvalidRow
from gluewhole.rows.maps import is_kernel_base
from gluewhole.space.spaces import check_ends, check_point_of, check_space, paths_from, pieces, plain_cells
from gluewhole.space.spaces import plain_is_path
from gluewhole.tables.tables import ascending, check_table, plain_led_by


def plain_is_local(table):
    """Whether each map of the table is undone by a grid."""
    return all([grid[0] == len(grid[1]) and is_undone(grid) for grid in table.maps.values()])


def is_local(table):
    """Whether each map of the table is undone by a grid."""
    check_table(table)
    return plain_is_local(table)


def check_local(table):
    """InvalidOperation unless the table is local."""
    check_fit(plain_is_local(table), "the table is not local")


def check_point_in(table, point):
    """InvalidTable, and InvalidNumber unless the value is a point of the table's space."""
    check_table(table)
    check_point_of(table.space, point)


def step_lead(maps, point, further):
    """The grid that leads from a point to a neighbour, by the cell of both."""
    cell = tuple(sorted((point, further)))
    return plain_product(undoing(maps[((further,), cell)]), maps[((point,), cell)])


def path_lead(table, path):
    """The grid of all steps of a path, one behind the other."""
    check_table(table)
    check_fit(plain_is_path(table.space, path), "this is no path of the table")
    check_local(table)
    maps, lead = table.maps, plain_unit(table.ranks[path[:1]])
    for point, further in zip(path, path[1:]):
        lead = plain_product(step_lead(maps, point, further), lead)
    return lead


def told_path(space, point, other):
    """The least path of those with the fewest points from a point to another one, None if there is none."""
    check_ends(space, point, other)
    return paths_from(space, point).get(other)


def told_rounds(space, paths):
    """The dict from the cells of the degree 1 that tell a round to this round, by the told paths from its point."""
    found = {}
    for cell in plain_cells(space, 1):
        if cell[0] in paths:
            ahead, behind = paths[cell[0]], paths[cell[1]]
            if ahead[:-1] != behind and behind[:-1] != ahead:
                found[cell] = ahead + behind[::-1]
    return found


def rounds(space, point):
    """The tuple of the told rounds at a point."""
    check_space(space)
    check_point_of(space, point)
    return tuple(list(told_rounds(space, paths_from(space, point)).values()))


def told_leads(table, paths):
    """The dict from the points with a told path to its lead: paths come behind those without their last point."""
    maps, ranks, leads = table.maps, table.ranks, {}
    for point, path in paths.items():
        if len(path) == 1:
            leads[point] = plain_unit(ranks[path])
        else:
            leads[point] = plain_product(step_lead(maps, path[-2], point), leads[path[-2]])
    return leads


def round_differences(table, point):
    """The leads of the told paths from a point, and for each told round the pair of it and of a grid.

    The grid leads a row to what the told paths to both ends of the round's cell make of it there, one less the
    other: so it leads just those rows to noughts which the round leaves as they are.
    """
    space, maps = table.space, table.maps
    paths = paths_from(space, point)
    leads, found = told_leads(table, paths), []
    for cell, way in told_rounds(space, paths).items():
        ahead = plain_product(maps[(cell[:1], cell)], leads[cell[0]])
        behind = plain_product(maps[(cell[1:], cell)], leads[cell[1]])
        found.append((way, plain_difference(ahead, behind)))
    return leads, found


def round_answer(table, point, row):
    """The whole that has a row at a point and noughts on other pieces, or the first told round that changes it."""
    check_point_in(table, point)
    if not is_row(row) or len(row) != table.ranks[(point,)]:
        raise InvalidRow("the row has not as many numbers as the rank at the point")
    check_local(table)
    leads, found = round_differences(table, point)
    for way, grid in found:
        if any(plain_led(grid, row)):
            return "round", way
    ranks, whole = table.ranks, []
    for cell in plain_cells(table.space, 0):
        whole.extend(list(plain_led(leads[cell[0]], row)) if cell[0] in leads else [0] * ranks[cell])
    return "whole", tuple(whole)


def changes_at(table, point):
    """The grid that leads just those rows to noughts which all told rounds at a point leave as they are."""
    rows = [row for _, grid in round_differences(table, point)[1] for row in grid[1]]
    return plain_grid(rows, table.ranks[(point,)])


def kept_base(table, point):
    """A grid whose columns are a base of the rows that all told rounds at a point leave as they are."""
    check_point_in(table, point)
    check_local(table)
    return plain_kernel(changes_at(table, point))


def is_kept_base(table, point, value):
    """Whether the value is a grid whose columns are such a base, with integers of any length."""
    check_point_in(table, point)
    check_local(table)
    if not is_long_grid(value) or len(value[1]) != table.ranks[(point,)]:
        return False
    return is_kernel_base(changes_at(table, point), value)


def straight(table):
    """A frame by which the table becomes a constant one, or the first told round that leads some row to another."""
    check_table(table)
    check_local(table)
    check_fit(len(pieces(table.space)) == 1, "the space has not just one piece")
    leads, found = round_differences(table, table.space[0][0])
    for way, grid in found:
        if not is_nought_grid(grid):
            return "round", way
    ranks, maps, frame = table.ranks, table.maps, {}
    for cell in table.space:
        # What leads from the first point to the cell; what undoes it makes the numbers alike everywhere.
        lead = plain_product(plain_led_by(ranks, maps, cell[:1], cell), leads[cell[0]])
        frame[cell] = undoing(lead)
    return "frame", ascending(frame)
