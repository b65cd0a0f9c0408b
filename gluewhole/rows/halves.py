"""A space cut in two halves: tellings glued and raised, and the groups of both halves and of what is common."""

from gluewhole.base.exact import plain_grid, plain_led, plain_unit, row_less, row_more
from gluewhole.base.made import plain_made_answer
from gluewhole.base.numbers import check_between, check_fit
from gluewhole.errors import Refused
from gluewhole.space.spaces import check_space, plain_cells, plain_degree, plain_is_sub
from gluewhole.tables.groups import plain_group
from gluewhole.tables.tables import check_sub, check_table, plain_restricted
from gluewhole.tables.tellings import check_degree, check_telling, is_long_still, is_long_telling, plain_rise_grid
from gluewhole.tables.tellings import plain_size, plain_spots


def plain_are_halves(space, value):
    """As are_halves, for a space."""
    if not isinstance(value, tuple) or len(value) != 2:
        return False
    if not all([plain_is_sub(space, half) for half in value]):
        return False
    one, other = value
    return all([cell in one or cell in other for cell in space])


def are_halves(space, value):
    """Whether the value is a pair of sub-spaces that together have all cells of a space."""
    check_space(space)
    return plain_are_halves(space, value)


def check_halves(table, one, other):
    """InvalidTable, and InvalidOperation unless the sub-spaces are halves of the space of the table."""
    check_table(table)
    check_fit(plain_are_halves(table.space, (one, other)), "these are no halves of the space of the table")


def check_halves_degree(table, one, other, degree):
    """The errors of functions of two halves and of a degree."""
    check_halves(table, one, other)
    check_degree(table, degree)


def check_sub_degree(table, sub, degree):
    """The errors of functions of a sub-space and of a degree."""
    check_table(table)
    check_sub(table, sub)
    check_degree(table, degree)


def plain_common(one, other):
    """The cells of both halves."""
    return tuple([cell for cell in one if cell in other])


def grid_on(table, sub, degree):
    """The grid of the rises of any degree on a sub-space."""
    return plain_rise_grid(plain_restricted(table, sub), degree)


def spots_on(table, sub, degree):
    """The dict from the cells of a sub-space to where their numbers begin and end in a telling on it."""
    return plain_spots(plain_restricted(table, sub), degree)


def size_on(table, sub, degree):
    """How many numbers a telling of any degree on a sub-space has."""
    return plain_size(plain_restricted(table, sub), degree)


def rise_on(table, sub, degree, part):
    """The rise of a telling of any degree on a sub-space."""
    return plain_led(grid_on(table, sub, degree), part)


def check_part(table, sub, degree, part):
    """InvalidTelling unless the value is a telling of the degree on a sub-space."""
    check_telling(plain_restricted(table, sub), degree, part)


def check_still_part(table, sub, degree, part, name):
    """Refused, with the name of the parameter, unless a telling on a sub-space is still."""
    if any(rise_on(table, sub, degree, part)):
        raise Refused((name,))


def common_part(table, one, other):
    """The sub-space with the cells of both halves."""
    check_halves(table, one, other)
    return plain_common(one, other)


def places_on(table, within, sub, degree):
    """The indices that the numbers of the cells of a sub-space have in a telling of a degree on a greater one."""
    spots = spots_on(table, within, degree)
    cells = plain_cells(sub, degree)
    return [at for cell in cells for at in range(spots[cell][0], spots[cell][1])]


def cut(table, within, sub, degree, telling):
    """The part on a sub-space of a telling on a greater one."""
    return tuple([telling[at] for at in places_on(table, within, sub, degree)])


def put(table, within, sub, degree, part):
    """The telling on a sub-space that a telling on a lesser one is, put out."""
    row = [0] * size_on(table, within, degree)
    for at, number in zip(places_on(table, within, sub, degree), part):
        row[at] = number
    return tuple(row)


def part_on(table, sub, degree, telling):
    """The part of a telling on a sub-space."""
    check_sub_degree(table, sub, degree)
    check_telling(table, degree, telling)
    return cut(table, table.space, sub, degree, telling)


def put_out(table, sub, degree, part):
    """The telling of the table that a telling on a sub-space is, put out."""
    check_sub_degree(table, sub, degree)
    check_part(table, sub, degree, part)
    return put(table, table.space, sub, degree, part)


def check_parts(table, one, other, degree, x, y):
    """The errors of functions of two halves and of a telling on each."""
    check_halves_degree(table, one, other, degree)
    check_part(table, one, degree, x)
    check_part(table, other, degree, y)


def plain_union(table, one, other, degree, x, y):
    """As union, of tellings with equal parts on the common part."""
    row = list(put(table, table.space, one, degree, x))
    for at, number in zip(places_on(table, table.space, other, degree), y):
        row[at] = number
    return tuple(row)


def union(table, one, other, degree, x, y):
    """The telling whose parts on both halves are told."""
    check_parts(table, one, other, degree, x, y)
    left, right = spots_on(table, one, degree), spots_on(table, other, degree)
    for cell in plain_cells(plain_common(one, other), degree):
        if x[left[cell][0]:left[cell][1]] != y[right[cell][0]:right[cell][1]]:
            raise Refused(("unlike", cell))
    return plain_union(table, one, other, degree, x, y)


def check_still_parts(table, one, other, degree, x, y):
    """The errors of functions of two halves and of a still telling on each."""
    check_parts(table, one, other, degree, x, y)
    check_still_part(table, one, degree, x, "x")
    check_still_part(table, other, degree, y, "y")


def plain_glue_answer(table, one, other, degree, x, y):
    """As glue_answer, without checks."""
    both = plain_common(one, other)
    less = row_less(cut(table, one, both, degree, x), cut(table, other, both, degree, y))
    return plain_made_answer(grid_on(table, both, degree - 1), less)


def glue_answer(table, one, other, degree, x, y):
    """Whether still tellings on both halves can be glued: the claim about their difference that is true."""
    check_still_parts(table, one, other, degree, x, y)
    return plain_glue_answer(table, one, other, degree, x, y)


def glued(table, one, other, degree, x, y):
    """A still telling with the parts x and y, more the rises of two tellings, and these two; None if there is none."""
    check_still_parts(table, one, other, degree, x, y)
    claim, paper = plain_glue_answer(table, one, other, degree, x, y)
    if claim[0] == "barred":
        return None
    less = (0,) * size_on(table, one, degree - 1)
    more = put(table, other, plain_common(one, other), degree - 1, paper)
    last = row_more(y, rise_on(table, other, degree - 1, more))
    return plain_union(table, one, other, degree, x, last), less, more


def is_glued_part(table, sub, degree, telling, part, more):
    """Whether a telling has on a sub-space this part, more the rise of a telling of one degree less."""
    if not is_long_telling(plain_restricted(table, sub), degree - 1, more):
        return False
    return cut(table, table.space, sub, degree, telling) == row_more(part, rise_on(table, sub, degree - 1, more))


def is_glued(table, one, other, degree, x, y, value):
    """Whether the value is a still telling glued of two, with the tellings whose rises come to them."""
    check_still_parts(table, one, other, degree, x, y)
    if not isinstance(value, tuple) or len(value) != 3 or not is_long_still(table, degree, value[0]):
        return False
    telling, left, right = value
    ahead = is_glued_part(table, one, degree, telling, x, left)
    return ahead and is_glued_part(table, other, degree, telling, y, right)


def check_common(table, one, other, degree, common):
    """The errors of functions of two halves and of a still telling on their common part."""
    check_halves_degree(table, one, other, degree)
    check_part(table, plain_common(one, other), degree, common)
    check_still_part(table, plain_common(one, other), degree, common, "common")


def raised(table, one, other, degree, common):
    """The still telling of the next degree that one on the common part is raised to, () for the greatest degree."""
    check_common(table, one, other, degree, common)
    higher = rise_on(table, one, degree, put(table, one, plain_common(one, other), degree, common))
    return put(table, table.space, one, degree + 1, higher)


def plain_sides_grid(table, one, other, degree):
    """As sides_grid, without checks."""
    both = plain_common(one, other)
    ahead, behind = grid_on(table, one, degree), grid_on(table, other, degree)
    left, right = places_on(table, one, both, degree), places_on(table, other, both, degree)
    rows = [row + (0,) * behind[0] for row in ahead[1]] + [(0,) * ahead[0] + row for row in behind[1]]
    units, others = plain_unit(ahead[0])[1], plain_unit(behind[0])[1]
    rows = rows + [units[at] + others[place] for at, place in zip(left, right)]
    return plain_grid(rows, ahead[0] + behind[0])


def sides_grid(table, one, other, degree):
    """The grid that leads tellings on both halves to their rises, and to the sum of their parts on the common part."""
    check_halves_degree(table, one, other, degree)
    return plain_sides_grid(table, one, other, degree)


def with_noughts(grid, row):
    """The row that is as long as the grid is high, with noughts ahead."""
    return (0,) * (len(grid[1]) - len(row)) + row


def sides_answer(table, one, other, degree, common):
    """Whether a still telling is the sum of the parts of still ones on both halves: the claim that is true."""
    check_common(table, one, other, degree, common)
    grid = plain_sides_grid(table, one, other, degree)
    return plain_made_answer(grid, with_noughts(grid, common))


def from_common(table, one, other, degree, telling):
    """A still telling on the common part and one whose rise is what it lacks of a telling, raised; or None."""
    check_halves(table, one, other)
    check_between(degree, 1, max(plain_degree(table.space), 0))
    check_telling(table, degree, telling)
    check_still_part(table, table.space, degree, telling, "telling")
    origins = []
    for half in (one, other):
        low = grid_on(table, half, degree - 1)
        claim, paper = plain_made_answer(low, cut(table, table.space, half, degree, telling))
        if claim[0] == "barred":
            return None
        origins.append(paper)
    both = plain_common(one, other)
    ahead, behind = origins
    parts = cut(table, one, both, degree - 1, ahead), cut(table, other, both, degree - 1, behind)
    less = row_less(parts[0], parts[1])
    ahead = row_less(ahead, put(table, one, both, degree - 1, less))
    return less, plain_union(table, one, other, degree - 1, ahead, behind)


def extend_answer(table, sub, degree, part):
    """Whether a still telling on a sub-space is the part of a still one: the claim that is true, with a paper."""
    check_sub_degree(table, sub, degree)
    check_part(table, sub, degree, part)
    check_still_part(table, sub, degree, part, "part")
    low = plain_rise_grid(table, degree)
    units = plain_unit(low[0])[1]
    told = [units[at] for at in places_on(table, table.space, sub, degree)]
    grid = plain_grid(list(low[1]) + told, low[0])
    return plain_made_answer(grid, with_noughts(grid, part))


def half_groups(table, one, other):
    """For each degree the groups of the space, of both halves and of the common part."""
    check_halves(table, one, other)
    subs, found = (table.space, one, other, plain_common(one, other)), []
    for degree in range(max(plain_degree(table.space), 0) + 1):
        grids = [(grid_on(table, sub, degree - 1), grid_on(table, sub, degree)) for sub in subs]
        found.append(tuple([plain_group(low, high) for low, high in grids]))
    return tuple(found)
