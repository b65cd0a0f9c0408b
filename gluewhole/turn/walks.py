"""Walks on local tables: what paths lead to, told rounds, and the rows that these leave as they are."""

from gluewhole.base.exact import is_nought_grid, plain_difference, plain_grid, plain_led, plain_unit
from gluewhole.base.exact import square_product, undoing
from gluewhole.base.made import plain_kernel
from gluewhole.base.numbers import check_fit, is_long_grid, is_row
from gluewhole.errors import InvalidRow
from gluewhole.rows.maps import is_kernel_base
from gluewhole.space.spaces import check_ends, check_point_of, check_space, paths_from, pieces, plain_cells
from gluewhole.space.spaces import plain_is_path
from gluewhole.tables.tables import ascending, check_table, plain_is_local, plain_led_by, told_maps, told_ranks


def is_local(table):
    """Whether each map of the table is undone by a grid."""
    check_table(table)
    return plain_is_local(table)


def check_local(table):
    """InvalidOperation unless the table is local."""
    check_fit(plain_is_local(table), "the table is not local")


def check_point_in(table, point):
    """InvalidTable, and InvalidNumber unless the value is a point of the table's space."""
    check_table(table)
    check_point_of(table.space, point)


def stepped(maps, point, further, lead):
    """What leads to a point, led on to a neighbour: to the cell of both, and by what undoes the neighbour's map."""
    cell = (point, further) if point < further else (further, point)
    return square_product(undoing(maps[((further,), cell)]), square_product(maps[((point,), cell)], lead))


def path_lead(table, path):
    """The grid of all steps of a path, one behind the other."""
    check_table(table)
    maps, ranks = told_maps(table), told_ranks(table)
    check_fit(plain_is_path(ranks, path), "this is no path of the table")
    check_local(table)
    lead = plain_unit(ranks[path[:1]])
    for point, further in zip(path, path[1:]):
        lead = stepped(maps, point, further, lead)
    return lead


def told_path(space, point, other):
    """The least path of those with the fewest points from a point to another one, None if there is none."""
    check_ends(space, point, other)
    return paths_from(space, point).get(other)


def told_rounds(space, paths):
    """The dict from the cells of the degree 1 that tell a round to this round, by the told paths from its point."""
    found = {}
    for cell in plain_cells(space, 1):
        if cell[0] in paths:
            ahead, behind = paths[cell[0]], paths[cell[1]]
            if len(ahead) == len(behind) or ahead[:-1] != behind and behind[:-1] != ahead:
                found[cell] = ahead + behind[::-1]
    return found


def rounds(space, point):
    """The tuple of the told rounds at a point."""
    check_space(space)
    check_point_of(space, point)
    return tuple(list(told_rounds(space, paths_from(space, point)).values()))


def told_leads(table, paths):
    """The dict from the points with a told path to its lead: paths come behind those without their last point."""
    maps, ranks, leads = told_maps(table), told_ranks(table), {}
    for point, path in paths.items():
        leads[point] = stepped(maps, path[-2], point, leads[path[-2]]) if len(path) > 1 else plain_unit(ranks[path])
    return leads


def round_difference(table, leads, cell):
    """What the told paths to both ends of a round's cell make there of a row, the first less the second one: a grid.

    So it leads just those rows to noughts which the round leaves as they are.
    """
    maps = told_maps(table)
    ahead = square_product(maps[(cell[:1], cell)], leads[cell[0]])
    return plain_difference(ahead, square_product(maps[(cell[1:], cell)], leads[cell[1]]))


def rows_reached(table, paths, point, row):
    """The dict from the points with a told path to what its lead makes of a row at its first point."""
    maps, rows = told_maps(table), {point: row}
    for further, path in paths.items():
        if len(path) > 1:
            cell = tuple(sorted(path[-2:]))
            there = plain_led(maps[(path[-2:-1], cell)], rows[path[-2]])
            rows[further] = plain_led(undoing(maps[((further,), cell)]), there)
    return rows


def round_answer(table, point, row):
    """The whole that has a row at a point and noughts on other pieces, or the first told round that changes it."""
    check_point_in(table, point)
    maps, ranks, space = told_maps(table), told_ranks(table), table.space
    if not is_row(row) or len(row) != ranks[(point,)]:
        raise InvalidRow("the row has not as many numbers as the rank at the point")
    check_local(table)
    paths = paths_from(space, point)
    rows = rows_reached(table, paths, point, row)
    for cell, way in told_rounds(space, paths).items():
        ahead = plain_led(maps[(cell[:1], cell)], rows[cell[0]])
        if ahead != plain_led(maps[(cell[1:], cell)], rows[cell[1]]):
            return "round", way
    whole = []
    for cell in plain_cells(space, 0):
        whole.extend(list(rows[cell[0]]) if cell[0] in rows else [0] * ranks[cell])
    return "whole", tuple(whole)


def changes_at(table, point):
    """A grid that leads just those rows to noughts which all told rounds at a point leave as they are."""
    space, found = table.space, {}
    paths = paths_from(space, point)
    leads = told_leads(table, paths)
    for cell in told_rounds(space, paths):
        for row in round_difference(table, leads, cell)[1]:
            if any(row):
                found[row] = True
    return plain_grid(list(found), told_ranks(table)[(point,)])


def kept_base(table, point):
    """A grid whose columns are a base of the rows that all told rounds at a point leave as they are."""
    check_point_in(table, point)
    check_local(table)
    return plain_kernel(changes_at(table, point))


def is_kept_base(table, point, value):
    """Whether the value is a grid whose columns are such a base, with integers of any length."""
    check_point_in(table, point)
    check_local(table)
    if not is_long_grid(value) or len(value[1]) != told_ranks(table)[(point,)]:
        return False
    return is_kernel_base(changes_at(table, point), value)


def straight(table):
    """A frame by which the table becomes a constant one, or the first told round that leads some row to another."""
    check_table(table)
    check_local(table)
    space, ranks, maps, frame = table.space, told_ranks(table), told_maps(table), {}
    check_fit(len(pieces(space)) == 1, "the space has not just one piece")
    paths = paths_from(space, space[0][0])
    leads = told_leads(table, paths)
    for cell, way in told_rounds(space, paths).items():
        if not is_nought_grid(round_difference(table, leads, cell)):
            return "round", way
    for cell in space:
        # What leads from the first point to the cell; what undoes it makes the numbers alike everywhere.
        lead = square_product(plain_led_by(ranks, maps, cell[:1], cell), leads[cell[0]])
        frame[cell] = undoing(lead)
    return "frame", ascending(frame)
