"""Tables: a rank at each cell of a space, and a grid from each face to each cell."""

from gluewhole.base.exact import is_undone, plain_grid, plain_nought, plain_product, plain_unit, undoing
from gluewhole.base.numbers import check_between, check_fit, is_between, is_grid
from gluewhole.errors import InvalidMap, InvalidTable, TooMany
from gluewhole.space.maps import plain_fault, plain_image
from gluewhole.space.spaces import ascending_faces, check_cell_of, check_space, is_cell, is_within, plain_cells
from gluewhole.space.spaces import plain_degree, plain_faces, plain_is_sub, plain_parts, plain_star

MAX_RANK = 4
MAX_SIZE = 30


class Table:
    """A table on a space. It never changes."""

    def __init__(self, space, ranks, maps):
        check_space(space)
        if plain_table_fault(space, ranks, maps) is not None:
            raise InvalidTable("the ranks and maps make no table on the space")
        self._space = space
        self._ranks = ascending(ranks)
        self._maps = ascending(maps)
        # Whether each map is undone by a grid: found when it is asked first, and kept, as the maps stay.
        self._local = None

    @property
    def space(self):
        """The space."""
        return self._space

    @property
    def ranks(self):
        """The dict from the cells to their ranks."""
        return {cell: self._ranks[cell] for cell in self._ranks}

    @property
    def maps(self):
        """The dict from the pairs (face, cell) to the grids."""
        return {pair: self._maps[pair] for pair in self._maps}

    def led_by(self, part, cell):
        """The grid that leads what is told at a part of a cell to the cell."""
        check_cell_of(self._space, part)
        check_cell_of(self._space, cell)
        check_fit(is_within(part, cell), "the first cell is no part of the second one")
        return plain_led_by(self._ranks, self._maps, part, cell)

    def __eq__(self, other):
        return (isinstance(other, Table) and self._space == other._space and self._ranks == other._ranks
                and self._maps == other._maps)

    def __str__(self):
        return f"table on {len(self._space)} cells, sizes {sizes_text(self._space, self._ranks)}"


def told_ranks(table):
    """The dict that the table itself keeps, for functions of the package: these only read it."""
    return table._ranks


def told_maps(table):
    """The dict that the table itself keeps, for functions of the package: these only read it."""
    return table._maps


def plain_is_local(table):
    """Whether each map of the table is undone by a grid."""
    if table._local is None:
        grids = list(table._maps.values())
        fits = all([grid[0] == len(grid[1]) for grid in grids])
        table._local = fits and all([is_undone(grid) for grid in grids])
    return table._local


def ascending(told):
    """The dict with its keys ascending."""
    return {key: told[key] for key in sorted(told)}


def built(space, ranks, maps):
    """The table that a function makes; its integers can be too long to pass them. TooMany(30) for its sizes."""
    for size in plain_sizes(space, ranks):
        if size > MAX_SIZE:
            raise TooMany(MAX_SIZE)
    table = Table((), {}, {})
    table._space = space
    table._ranks = ascending(ranks)
    table._maps = ascending(maps)
    return table


def plain_sizes(space, ranks):
    """The sizes of the degrees from 0 to the greatest one, (0,) for the empty space."""
    degrees = range(max(plain_degree(space), 0) + 1)
    return tuple([sum([ranks[cell] for cell in plain_cells(space, degree)]) for degree in degrees])


def sizes_text(space, ranks):
    """The sizes with blanks between them."""
    return " ".join([str(size) for size in plain_sizes(space, ranks)])


def plain_led_by(ranks, maps, some, cell):
    """The grid from a part of a cell to the cell, by the way that adds the least point first."""
    grid, at = plain_unit(ranks[some]), some
    for point in cell:
        if point not in some:
            further = tuple(sorted(at + (point,)))
            grid, at = plain_product(maps[(at, further)], grid), further
    return grid


def face_pairs(space):
    """The pairs (face, cell), by the cells in the sequence of the space and then by ascending faces."""
    return [(face, cell) for cell in space for face in ascending_faces(cell)]


def far_pairs(space):
    """The pairs of a part with two points less and a cell, in the same sequence."""
    return [(some, cell) for cell in space for some in plain_parts(cell) if len(some) == len(cell) - 2]


def are_just(cells, told):
    """Whether the value is a dict from just these cells."""
    if not isinstance(told, dict) or len(told) != len(cells) or not all([is_cell(cell) for cell in told]):
        return False
    return all([cell in told for cell in cells])


def are_ranks(space, ranks):
    """Whether the value is a dict from just all cells to integers from 0 to 4."""
    return are_just(space, ranks) and all([is_between(rank, 0, MAX_RANK) for rank in ranks.values()])


def is_pair_of_cells(value):
    """Whether the value is a pair of cells."""
    return isinstance(value, tuple) and len(value) == 2 and all([is_cell(cell) for cell in value])


def are_maps(pairs, maps):
    """Whether the value is a dict with just these pairs as keys."""
    if not isinstance(maps, dict) or len(maps) != len(pairs) or not all([is_pair_of_cells(key) for key in maps]):
        return False
    return all([pair in maps for pair in pairs])


def ways(maps, some, cell):
    """The grids of both ways from a part with two points less to a cell."""
    between = [face for _, face in plain_faces(cell) if is_within(some, face)]
    return [plain_product(maps[(face, cell)], maps[(some, face)]) for face in between]


def plain_table_fault(space, ranks, maps):
    """As table_fault, for a space."""
    if not are_ranks(space, ranks):
        return ("ranks",)
    for degree, size in enumerate(plain_sizes(space, ranks)):
        if size > MAX_SIZE:
            return "size", degree
    pairs = face_pairs(space)
    if not are_maps(pairs, maps):
        return ("maps",)
    for face, cell in pairs:
        grid = maps[(face, cell)]
        if not is_grid(grid) or grid[0] != ranks[face] or len(grid[1]) != ranks[cell]:
            return "grid", face, cell
    for some, cell in far_pairs(space):
        one, other = ways(maps, some, cell)
        if one != other:
            return "ways", some, cell
    return None


def check_table(value):
    """InvalidTable unless the value is a table."""
    if not isinstance(value, Table):
        raise InvalidTable("this is no table")


def check_sub(table, value):
    """InvalidOperation unless the value is a sub-space of the space of the table."""
    check_fit(plain_is_sub(table.space, value), "this is no sub-space of the space")


def table_fault(space, ranks, maps):
    """The first fault of ranks and maps that make no table on the space, or None."""
    check_space(space)
    return plain_table_fault(space, ranks, maps)


def constant_at(space, lot, rank):
    """The table with a rank at some cells and unit grids between them, and the rank 0 elsewhere."""
    ranks = {cell: rank if cell in lot else 0 for cell in space}
    maps = {}
    for face, cell in face_pairs(space):
        both = face in lot and cell in lot
        maps[(face, cell)] = plain_unit(rank) if both else plain_nought(ranks[cell], ranks[face])
    return built(space, ranks, maps)


def constant(space, rank):
    """The table with one rank and unit grids."""
    check_space(space)
    check_between(rank, 0, MAX_RANK)
    return constant_at(space, space, rank)


def on_star(space, cell, rank):
    """The table with one rank and unit grids on the star of a cell."""
    check_space(space)
    check_cell_of(space, cell)
    check_between(rank, 0, MAX_RANK)
    return constant_at(space, plain_star(space, cell), rank)


def on_parts(space, cell, rank):
    """The table with one rank and unit grids on the parts of a cell."""
    check_space(space)
    check_cell_of(space, cell)
    check_between(rank, 0, MAX_RANK)
    return constant_at(space, plain_parts(cell), rank)


def plain_restricted(table, sub):
    """As restricted, without checks."""
    ranks, maps = table.ranks, table.maps
    return built(sub, {cell: ranks[cell] for cell in sub}, {pair: maps[pair] for pair in face_pairs(sub)})


def restricted(table, sub):
    """The table on a sub-space, with its ranks and maps there."""
    check_table(table)
    check_sub(table, sub)
    return plain_restricted(table, sub)


def kept_at(table, lot):
    """The table with its ranks and maps at some cells, and the rank 0 elsewhere."""
    space, ranks, maps = table.space, table.ranks, table.maps
    kept = {cell: ranks[cell] if cell in lot else 0 for cell in space}
    grids = {}
    for face, cell in face_pairs(space):
        both = face in lot and cell in lot
        grids[(face, cell)] = maps[(face, cell)] if both else plain_nought(kept[cell], kept[face])
    return built(space, kept, grids)


def inside(table, sub):
    """The table with its ranks and maps at the cells of a sub-space, and the rank 0 elsewhere."""
    check_table(table)
    check_sub(table, sub)
    return kept_at(table, sub)


def outside(table, sub):
    """The table with its ranks and maps at the cells that a sub-space lacks, and the rank 0 elsewhere."""
    check_table(table)
    check_sub(table, sub)
    return kept_at(table, [cell for cell in table.space if cell not in sub])


def sum_of_grids(one, other):
    """The grid that leads the first numbers by the first grid, and the last ones by the second grid."""
    ahead = [row + (0,) * other[0] for row in one[1]]
    return plain_grid(ahead + [(0,) * one[0] + row for row in other[1]], one[0] + other[0])


def product_of_grids(one, other):
    """The grid with the products of all numbers of both, those of one row and column of the first side by side."""
    rows = [[left * right for left in row for right in line] for row in one[1] for line in other[1]]
    return plain_grid(rows, one[0] * other[0])


def check_tables(one, other):
    """The errors of functions of two tables on one space."""
    check_table(one)
    check_table(other)
    check_fit(one.space == other.space, "the tables are on unlike spaces")


def checked_ranks(ranks):
    """The ranks, or TooMany(4) if one is above 4."""
    if max(list(ranks.values()), default=0) > MAX_RANK:
        raise TooMany(MAX_RANK)
    return ranks


def table_sum(one, other):
    """The table with both ranks added, in which each part is led by itself."""
    check_tables(one, other)
    space, left, right = one.space, one.ranks, other.ranks
    ranks = checked_ranks({cell: left[cell] + right[cell] for cell in space})
    left, right = one.maps, other.maps
    return built(space, ranks, {pair: sum_of_grids(left[pair], right[pair]) for pair in left})


def table_product(one, other):
    """The table with both ranks multiplied, in which pairs of numbers are led."""
    check_tables(one, other)
    space, left, right = one.space, one.ranks, other.ranks
    ranks = checked_ranks({cell: left[cell] * right[cell] for cell in space})
    left, right = one.maps, other.maps
    return built(space, ranks, {pair: product_of_grids(left[pair], right[pair]) for pair in left})


def pulled(table, space, lead):
    """The table on a space that has at each cell what the table has at its image under a map."""
    check_table(table)
    check_space(space)
    if plain_fault(space, table.space, lead) is not None:
        raise InvalidMap("the lead is no map from the space to that of the table")
    ranks, maps = table.ranks, table.maps
    images = {cell: plain_image(lead, cell) for cell in space}
    grids = {}
    for face, cell in face_pairs(space):
        grids[(face, cell)] = plain_led_by(ranks, maps, images[face], images[cell])
    return built(space, {cell: ranks[images[cell]] for cell in space}, grids)


def is_frame(value, size):
    """Whether the value is a grid as wide and high as told that a grid undoes."""
    return is_grid(value) and value[0] == size and len(value[1]) == size and is_undone(value)


def framed(table, frames):
    """The table whose maps are led by a frame at each cell."""
    check_table(table)
    space, ranks, maps = table.space, table.ranks, table.maps
    fits = are_just(space, frames) and all([is_frame(frames[cell], ranks[cell]) for cell in space])
    check_fit(fits, "this is no dict of frames for just all cells")
    back = {cell: undoing(frames[cell]) for cell in space}
    grids = {}
    for face, cell in maps:
        grids[(face, cell)] = plain_product(plain_product(frames[cell], maps[(face, cell)]), back[face])
    return built(space, ranks, grids)
