"""Spaces of cells: points, stretches, triangles and tetrahedra."""

from gluewhole.base.exact import plain_grid
from gluewhole.base.numbers import are_long_integers, check_between, check_fit, check_most, have_integers, is_between
from gluewhole.errors import InvalidCell, InvalidNumber, InvalidSpace, TooMany

MOST_POINT = 99
MOST_LENGTH = 4
MOST_CELLS = 80


def is_point(value):
    """Whether the value is a point."""
    return is_between(value, 0, MOST_POINT)


def is_ascending_points(value):
    """Whether the value is an ascending tuple of points."""
    if not isinstance(value, tuple) or not are_long_integers(value):
        return False
    if not all([ahead < behind for ahead, behind in zip(value, value[1:])]):
        return False
    return value == () or 0 <= value[0] and value[-1] <= MOST_POINT


def is_cell(value):
    """Whether the value is a cell."""
    return isinstance(value, tuple) and 1 <= len(value) <= MOST_LENGTH and is_ascending_points(value)


def ordered(cells):
    """The cells, each once, ascending as in a space."""
    return tuple(sorted(sorted(set(cells)), key=len))


def plain_faces(cell):
    """The pairs (sign, face), in the sequence of the points left out."""
    if len(cell) == 1:
        return ()
    if len(cell) == 2:
        return (1, cell[1:]), (-1, cell[:1])
    return tuple([(-1 if at % 2 == 1 else 1, cell[:at] + cell[at + 1:]) for at in range(len(cell))])


def ascending_faces(cell):
    """The list of the faces, ascending."""
    return sorted([face for _, face in plain_faces(cell)])


def plain_parts(cell):
    """All parts of a cell, ascending as in a space."""
    found = [()]
    for point in cell:
        found = found + [some + (point,) for some in found]
    return ordered(found[1:])


def is_within(some, cell):
    """Whether all points of the first cell are points of the second one."""
    return all([point in cell for point in some])


def is_lot(value):
    """Whether the value is a tuple of at most 80 cells, ascending as in a space."""
    if not isinstance(value, tuple) or len(value) > MOST_CELLS or not all([is_cell(cell) for cell in value]):
        return False
    return value == ordered(value)


def have_faces(ones, twos, threes, fours):
    """Whether all these tuples of integers, ascending among those of one length, are cells and have all their faces.

    Tuples of three or four integers ascend if their faces do, and have points if these have.
    """
    if ones != () and not (0 <= ones[0][0] and ones[-1][0] <= MOST_POINT):
        return False
    found = {cell[0]: True for cell in ones}
    if not all([low < high and low in found and high in found for low, high in twos]):
        return False
    if threes == ():
        return fours == ()
    found = {cell: True for cell in twos}
    if not all([(a, b) in found and (a, c) in found and (b, c) in found for a, b, c in threes]):
        return False
    found = {cell: True for cell in threes}
    return all([face in found for cell in fours for _, face in plain_faces(cell)])


def is_space(value):
    """Whether the value is a space. Nearly all functions ask it: so each step goes over all cells at once."""
    if not isinstance(value, tuple) or len(value) > MOST_CELLS:
        return False
    if not all([isinstance(cell, tuple) for cell in value]) or not have_integers(value):
        return False
    sizes = [len(cell) for cell in value]
    if sizes != sorted(sizes) or 0 in sizes or max(sizes, default=0) > MOST_LENGTH:
        return False
    if not all([ahead < behind or len(ahead) < len(behind) for ahead, behind in zip(value, value[1:])]):
        return False
    first, middle = sizes.count(1), sizes.count(1) + sizes.count(2)
    last = middle + sizes.count(3)
    return have_faces(value[:first], value[first:middle], value[middle:last], value[last:])


def check_space(value):
    """InvalidSpace unless the value is a space."""
    if not is_space(value):
        raise InvalidSpace("a space is a tuple of at most 80 cells with all their parts, in ascending order")


def check_spaces(one, other):
    """InvalidSpace for the first of two values that is no space."""
    check_space(one)
    check_space(other)


def check_cell(value):
    """InvalidCell unless the value is a cell."""
    if not is_cell(value):
        raise InvalidCell("a cell is an ascending tuple of one to four points")


def check_cell_of(space, value):
    """InvalidCell unless the value is a cell of the space."""
    if not is_cell(value) or value not in space:
        raise InvalidCell("this is no cell of the space")


def check_point_of(space, value):
    """InvalidNumber unless the value is a point of the space."""
    if not is_point(value) or (value,) not in space:
        raise InvalidNumber(value)


def checked_size(cells):
    """The cells, or TooMany(80) if a space cannot have so many."""
    if len(cells) > MOST_CELLS:
        raise TooMany(MOST_CELLS)
    return cells


def plain_degree(space):
    """The greatest degree of a cell, -1 for the empty space."""
    return max([len(cell) for cell in space], default=0) - 1


def plain_cells(space, degree):
    """The cells of a degree, whatever degree this is."""
    return tuple([cell for cell in space if len(cell) == degree + 1])


def plain_star(space, cell):
    """The cells that have the cell as a part."""
    return tuple([other for other in space if is_within(cell, other)])


def parts_of_all(cells):
    """All parts of the cells, ascending as in a space."""
    return ordered([some for cell in cells for some in plain_parts(cell)])


def faces(cell):
    """The tuple of the pairs (sign, face), in the sequence of the points left out."""
    check_cell(cell)
    return plain_faces(cell)


def parts(cell):
    """The tuple of all parts, ascending as in a space."""
    check_cell(cell)
    return plain_parts(cell)


def space_of(cells):
    """The least space with these cells."""
    if not isinstance(cells, tuple) or len(cells) > MOST_CELLS:
        raise InvalidCell("the cells are no tuple of at most 80 cells")
    for cell in cells:
        check_cell(cell)
    return checked_size(parts_of_all(cells))


def degree_of(space):
    """The greatest degree of a cell, -1 for the empty space."""
    check_space(space)
    return plain_degree(space)


def points(space):
    """The ascending tuple of all points."""
    check_space(space)
    return tuple([cell[0] for cell in plain_cells(space, 0)])


def cells_of(space, degree):
    """The cells of a degree."""
    check_space(space)
    check_between(degree, 0, MOST_LENGTH - 1)
    return plain_cells(space, degree)


def tops(space):
    """The cells that are no part of another one."""
    check_space(space)
    return tuple([cell for cell in space if len(plain_star(space, cell)) == 1])


def count(space):
    """The number of the cells of even degree, less that of the others."""
    check_space(space)
    return sum([1 if len(cell) % 2 == 1 else -1 for cell in space])


def plain_border(space, degree):
    """The border of a degree, of any size."""
    columns = [{face: sign for sign, face in plain_faces(cell)} for cell in plain_cells(space, degree)]
    below = plain_cells(space, degree - 1)
    return plain_grid([[column.get(face, 0) for column in columns] for face in below], len(columns))


def border(space, degree):
    """The grid with the sign at each face and cell of the degree, and 0 elsewhere."""
    check_space(space)
    check_between(degree, 1, MOST_LENGTH - 1)
    check_most(len(plain_cells(space, degree - 1)))
    check_most(len(plain_cells(space, degree)))
    return plain_border(space, degree)


def skeleton(space, degree):
    """The cells of at most this degree."""
    check_space(space)
    check_between(degree, 0, MOST_LENGTH - 1)
    return tuple([cell for cell in space if len(cell) <= degree + 1])


def star(space, cell):
    """The cells that have the cell as a part."""
    check_space(space)
    check_cell_of(space, cell)
    return plain_star(space, cell)


def closed_star(space, cell):
    """All parts of the cells that have the cell as a part."""
    check_space(space)
    check_cell_of(space, cell)
    return parts_of_all(plain_star(space, cell))


def link(space, cell):
    """The cells without a point of the cell that together with its points make a cell."""
    check_space(space)
    check_cell_of(space, cell)
    rests = [tuple([point for point in other if point not in cell]) for other in plain_star(space, cell)]
    return ordered([rest for rest in rests if rest != ()])


def plain_is_sub(space, value):
    """Whether the value is a sub-space of a space."""
    return is_space(value) and all([cell in space for cell in value])


def is_sub(space, value):
    """Whether the value is a sub-space."""
    check_space(space)
    return plain_is_sub(space, value)


def is_open(space, value):
    """Whether the value is some of the cells that have with each cell all that have it as a part."""
    check_space(space)
    if not is_lot(value) or not all([cell in space for cell in value]):
        return False
    return all([other in value for cell in value for other in plain_star(space, cell)])


def joined(one, other):
    """All cells of one of two spaces."""
    check_spaces(one, other)
    return checked_size(ordered(one + other))


def common(one, other):
    """All cells of both of two spaces."""
    check_spaces(one, other)
    return tuple([cell for cell in one if cell in other])


def cone(space, point):
    """The least space with the point and all cells made of a cell of the space and it."""
    check_space(space)
    check_between(point, 0, MOST_POINT)
    check_fit((point,) not in space, "the space has the point")
    if plain_degree(space) == MOST_LENGTH - 1:
        raise TooMany(MOST_LENGTH)
    sides = tuple([tuple(sorted(cell + (point,))) for cell in space])
    return checked_size(ordered(space + ((point,),) + sides))


def neighbours(space):
    """A dict from each point of a space to the list of those with which it makes a cell of the degree 1."""
    found = {}
    for cell in space:
        if len(cell) > 2:
            break
        if len(cell) == 1:
            found[cell[0]] = []
        else:
            found[cell[0]].append(cell[1])
            found[cell[1]].append(cell[0])
    return found


def paths_from(space, point):
    """A dict from each point to which a path leads to the least one of those with the fewest points.

    Points are reached in the sequence of these paths, as each one's neighbours ascend: so the first path to one is it.
    """
    near, found, reached = neighbours(space), {point: (point,)}, [point]
    while reached:
        further = []
        for last in reached:
            for other in near[last]:
                if other not in found:
                    found[other] = found[last] + (other,)
                    further.append(other)
        reached = further
    return found


def check_ends(space, one, other):
    """The errors of functions of a space and two of its points."""
    check_space(space)
    check_point_of(space, one)
    check_point_of(space, other)


def hang_answer(space, one, other):
    """A path from a point to another one, or a side that has just the first one."""
    check_ends(space, one, other)
    found = paths_from(space, one)
    if other in found:
        return "path", found[other]
    return "side", tuple(sorted(found))


def plain_is_path(cells, value):
    """Whether the value is a path from any point of a space to any one; the cells are the space, or keys of a dict."""
    if not isinstance(value, tuple) or value == () or not are_long_integers(value):
        return False
    steps = [(one, other) if one < other else (other, one) for one, other in zip(value, value[1:])]
    return value[:1] in cells and all([step in cells for step in steps])


def is_path(space, one, other, value):
    """Whether the value is a path from a point to another one."""
    check_ends(space, one, other)
    return plain_is_path(space, value) and value[0] == one and value[-1] == other


def is_side(space, one, other, value):
    """Whether the value is a side with the first point and without the second one."""
    check_ends(space, one, other)
    if not is_ascending_points(value) or not all([(point,) in space for point in value]):
        return False
    split = [cell for cell in plain_cells(space, 1) if (cell[0] in value) != (cell[1] in value)]
    return one in value and other not in value and split == []


def pieces(space):
    """The tuple of the greatest sub-spaces in which paths lead to all points, by their least points."""
    check_space(space)
    found, seen = [], {}
    for least in plain_cells(space, 0):
        if least[0] not in seen:
            paths = paths_from(space, least[0])
            seen.update(paths)
            found.append(tuple([cell for cell in space if cell[0] in paths]))
    return tuple(found)
