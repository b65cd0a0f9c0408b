"""Pairings of bare rows, the lesser rows behind them, and the maps that keep all groups."""

from gluewhole.base.exact import is_nought_grid, less_multiple, plain_difference, plain_grid, plain_led, plain_nought
from gluewhole.base.exact import plain_product, plain_sum, plain_unit, row_more
from gluewhole.base.numbers import check_fit, is_between, is_sized
from gluewhole.errors import InvalidTelling
from gluewhole.rows.maps import check_like_rows, plain_is_rows_map
from gluewhole.tables.groups import Rows, check_bare, check_degree_of, check_telling_in, is_still_in, is_telling_in


def without(row, at):
    """The row without the number with an index."""
    return row[:at] + row[at + 1:]


def less_row(grid, at):
    """The grid without the row with an index."""
    return grid[0], without(grid[1], at)


def less_column(grid, at):
    """The grid without the column with an index."""
    return grid[0] - 1, tuple([without(row, at) for row in grid[1]])


def has_unit(grid, column, row):
    """Whether the grid has 1 or -1 in this row and column."""
    if not is_between(column, 0, grid[0] - 1) or not is_between(row, 0, len(grid[1]) - 1):
        return False
    return grid[1][row][column] in (1, -1)


def is_pairing_of(grids, value):
    """Whether the value is a pairing of the rows with these grids."""
    if not isinstance(value, tuple) or len(value) != 3 or not is_between(value[0], 0, len(grids) - 1):
        return False
    return has_unit(grids[value[0]], value[1], value[2])


def cleared(grid, column, row):
    """The grid without a column and a row with a unit, multiples of this row being taken off the others."""
    unit, step = grid[1][row][column], grid[1][row]
    rest = [less_multiple(line, line[column] * unit, step) for line in without(grid[1], row)]
    return less_column(plain_grid(rest, grid[0]), column)


def less_pairing(grids, pairing):
    """The grids of the rows that one pairing leaves."""
    degree, column, row = pairing
    rest = list(grids)
    rest[degree] = cleared(grids[degree], column, row)
    if degree > 0:
        rest[degree - 1] = less_row(grids[degree - 1], column)
    if degree + 1 < len(grids):
        rest[degree + 1] = less_column(grids[degree + 1], row)
    return tuple(rest)


def left_grids(grids, value):
    """The grids of the rows that pairings leave, None if the value is no tuple of pairings."""
    if not isinstance(value, tuple):
        return None
    rest = grids
    for pairing in value:
        if not is_pairing_of(rest, pairing):
            return None
        rest = less_pairing(rest, pairing)
    return rest


def are_pairings(rows, value):
    """Whether the value is a tuple of pairings, each one of the rows that those ahead of it leave."""
    check_bare(rows)
    return left_grids(rows.grids, value) is not None


def check_pairings(rows, value):
    """InvalidRows, and InvalidOperation unless the value is pairings of the rows."""
    check_bare(rows)
    check_fit(left_grids(rows.grids, value) is not None, "these are no pairings of the rows")


def lesser(rows, pairings):
    """The rows that pairings leave."""
    check_pairings(rows, pairings)
    sizes = list(rows.sizes)
    for pairing in pairings:
        sizes[pairing[0]] -= 1
        sizes[pairing[0] + 1] -= 1
    return Rows(tuple(sizes), left_grids(rows.grids, pairings))


def there_by(grid, pairing, low, high):
    """What leads there behind a pairing, in its degree and in the next one."""
    _, column, row = pairing
    unit, taken = grid[1][row][column], high[1][row]
    lines = [less_multiple(line, told[column] * unit, taken) for line, told in zip(high[1], grid[1])]
    return less_row(low, column), less_row(plain_grid(lines, high[0]), row)


def back_by(grid, pairing, low, high):
    """What leads back behind a pairing, in its degree and in the next one."""
    _, column, row = pairing
    unit, step = grid[1][row][column], grid[1][row]
    lines = [less_multiple(line, unit * line[column], step) for line in low[1]]
    return less_column(plain_grid(lines, low[0]), column), less_column(high, row)


def steps_by(grid, pairing, back, there, steps):
    """The steps in the degree of a pairing, more its own ones, between what leads there and back ahead of it."""
    _, column, row = pairing
    unit, taken = grid[1][row][column], there[1][row]
    lines = [less_multiple(line, -unit * told[column], taken) for line, told in zip(steps[1], back[1])]
    return plain_grid(lines, steps[0])


def kept(rows, pairings):
    """What leads there, what leads back, and the steps of pairings, one behind the other."""
    check_pairings(rows, pairings)
    sizes, grids = rows.sizes, rows.grids
    there, back = [plain_unit(size) for size in sizes], [plain_unit(size) for size in sizes]
    steps = [plain_nought(low, high) for low, high in zip(sizes, sizes[1:])]
    for pairing in pairings:
        low = pairing[0]
        high, grid = low + 1, grids[low]
        steps[low] = steps_by(grid, pairing, back[low], there[high], steps[low])
        there[low], there[high] = there_by(grid, pairing, there[low], there[high])
        back[low], back[high] = back_by(grid, pairing, back[low], back[high])
        grids = less_pairing(grids, pairing)
    return tuple(there), tuple(back), tuple(steps)


def are_steps(rows, value):
    """Whether the value is a tuple of a grid from each degree but the first one to the one ahead."""
    if not isinstance(value, tuple) or len(value) != len(rows) - 1:
        return False
    return all([is_sized(grid, high, low) for grid, low, high in zip(value, rows.sizes, rows.sizes[1:])])


def is_stepped(rows, there, back, steps, degree):
    """Whether each telling of a degree, less what there and back lead it to, is told by the steps."""
    size = rows.sizes[degree]
    less = plain_difference(plain_unit(size), plain_product(back[degree], there[degree]))
    if degree > 0:
        less = plain_difference(less, plain_product(rows.grids[degree - 1], steps[degree - 1]))
    if degree < len(steps):
        less = plain_difference(less, plain_product(steps[degree], rows.grids[degree]))
    return is_nought_grid(less)


def plain_is_kept(rows, other, value):
    """As is_kept, for rows of equally many degrees."""
    if not isinstance(value, tuple) or len(value) != 3:
        return False
    there, back, steps = value
    if not plain_is_rows_map(rows, other, there) or not plain_is_rows_map(other, rows, back):
        return False
    if not are_steps(rows, steps):
        return False
    both = [plain_product(ahead, behind) for ahead, behind in zip(there, back)]
    if both != [plain_unit(size) for size in other.sizes]:
        return False
    return all([is_stepped(rows, there, back, steps, degree) for degree in range(len(rows))])


def is_kept(rows, other, value):
    """Whether the value is what leads there and back, and steps, by which other rows keep the groups of the rows."""
    check_like_rows((rows, other))
    return plain_is_kept(rows, other, value)


def first_unit(grids):
    """The first pairing of the rows with these grids, None if there is none."""
    for degree, grid in enumerate(grids):
        for row, line in enumerate(grid[1]):
            for column, number in enumerate(line):
                if number in (1, -1):
                    return degree, column, row
    return None


def all_pairings(rows):
    """Pairings of the rows behind which no grid has 1 or -1 left."""
    check_bare(rows)
    grids, found = rows.grids, []
    pairing = first_unit(grids)
    while pairing is not None:
        found.append(pairing)
        grids = less_pairing(grids, pairing)
        pairing = first_unit(grids)
    return tuple(found)


def are_all_pairings(rows, value):
    """Whether the value is pairings of the rows behind which no grid has 1 or -1 left."""
    check_bare(rows)
    rest = left_grids(rows.grids, value)
    return rest is not None and first_unit(rest) is None


def kept_on(rows, middle, other, first, last):
    """What leads there, back, and the steps by the first triple and then by the last one."""
    check_like_rows((rows, middle, other))
    fits = plain_is_kept(rows, middle, first) and plain_is_kept(middle, other, last)
    check_fit(fits, "these are no triples of what leads there and back, and of steps")
    there = [plain_product(behind, ahead) for ahead, behind in zip(first[0], last[0])]
    back = [plain_product(ahead, behind) for ahead, behind in zip(first[1], last[1])]
    steps = []
    for degree, grid in enumerate(first[2]):
        further = plain_product(plain_product(first[1][degree], last[2][degree]), first[0][degree + 1])
        steps.append(plain_sum(grid, further))
    return tuple(there), tuple(back), tuple(steps)


def check_maker(rows, degree, maker):
    """InvalidTelling unless the value is a telling of one degree less, () for the degree 0."""
    fits = maker == () if degree == 0 else is_telling_in(rows, degree - 1, maker)
    if not fits:
        raise InvalidTelling("this is no telling of one degree less")


def kept_made(rows, other, triple, degree, telling, maker):
    """The telling whose rise is a still telling, told by one whose rise is what this is led to there."""
    check_like_rows((rows, other))
    check_fit(plain_is_kept(rows, other, triple), "this is no triple of what leads there and back, and of steps")
    check_degree_of(rows, degree)
    check_telling_in(rows, degree, telling)
    check_maker(other, degree, maker)
    there, back, steps = triple
    goal = plain_led(there[degree], telling)
    fits = is_still_in(rows, degree, telling) and plain_led(other.grid(degree - 1), maker) == goal
    check_fit(fits, "the telling is not still, or the rise of the maker is not what it is led to")
    if degree == 0:
        return ()
    return row_more(plain_led(back[degree - 1], maker), plain_led(steps[degree - 1], telling))
