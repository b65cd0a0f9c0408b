"""Sides of sheets: spaces of triangles that have two sides or one, and the table of the sides of a surface."""

from gluewhole.base.numbers import check_fit
from gluewhole.space.spaces import check_space, link, pieces, plain_cells, plain_degree, plain_faces, plain_star
from gluewhole.tables.tables import built, face_pairs


def triangles_above(space, cell):
    """The cells of the degree 2 that have a cell as a part."""
    return plain_cells(plain_star(space, cell), 2)


def plain_is_sheet(space):
    """As is_sheet, for a space."""
    return plain_degree(space) < 3 and all([len(triangles_above(space, cell)) <= 2 for cell in plain_cells(space, 1)])


def is_sheet(space):
    """Whether a space has no cells of the degree 3, and each cell of the degree 1 is a face of at most two."""
    check_space(space)
    return plain_is_sheet(space)


def plain_is_surface(space):
    """As is_surface, for a space."""
    if not plain_is_sheet(space) or not all([triangles_above(space, cell) for cell in space]):
        return False
    if not all([len(triangles_above(space, cell)) == 2 for cell in plain_cells(space, 1)]):
        return False
    return all([len(pieces(link(space, cell))) == 1 for cell in plain_cells(space, 0)])


def is_surface(space):
    """Whether a space is a sheet of triangles alone that go round each point, two of them at each stretch."""
    check_space(space)
    return plain_is_surface(space)


def turn_of(one, other):
    """The turn of two neighbours among cells of the degree 2, 0 if they are none."""
    signs = {face: sign for sign, face in plain_faces(other)}
    turns = [-sign * signs[face] for sign, face in plain_faces(one) if face in signs]
    return turns[0] if len(turns) == 1 else 0


def turns_of(cells):
    """For each of some cells of the degree 2 the list of the pairs of the index of a neighbour and of the turn."""
    found = []
    for cell in cells:
        turns = [(at, turn_of(cell, other)) for at, other in enumerate(cells)]
        found.append([(at, turn) for at, turn in turns if turn != 0])
    return found


def turned_from(near, start):
    """What rows of neighbours from a cell come to: the sides by indices, and None or else a twisted row."""
    sides, ways, reached = {start: 1}, {start: (start,)}, [start]
    while reached:
        further = []
        for at in reached:
            for other, turn in near[at]:
                if other not in sides:
                    sides[other], ways[other] = sides[at] * turn, ways[at] + (other,)
                    further.append(other)
                elif sides[other] != sides[at] * turn:
                    return sides, ways[at] + ways[other][::-1]
        reached = further
    return sides, None


def sides_answer(space):
    """Whether a sheet has two sides: the claim that is true, with sides or a twisted row as its paper."""
    check_space(space)
    check_fit(plain_is_sheet(space), "the space is no sheet")
    cells = plain_cells(space, 2)
    near, sides = turns_of(cells), {}
    for at in range(len(cells)):
        if at not in sides:
            found, twisted = turned_from(near, at)
            if twisted is not None:
                return ("one side", cells), twisted
            sides.update(found)
    return ("two sides", cells), tuple([sides[at] for at in range(len(cells))])


def sides_above(cells):
    """The dict from the cells of the degree 2 above a cell of a surface to the turns from the first one to them."""
    sides = turned_from(turns_of(cells), 0)[0]
    return {cell: sides[at] for at, cell in enumerate(cells)}


def sides_table(space):
    """The table of the rank 1 whose maps tell how the first triangles above a face and above a cell turn."""
    check_space(space)
    check_fit(plain_is_surface(space), "the space is no surface")
    above = {cell: triangles_above(space, cell) for cell in space}
    turns = {cell: sides_above(above[cell]) for cell in space}
    maps = {(face, cell): (1, ((turns[face][above[cell][0]],),)) for face, cell in face_pairs(space)}
    return built(space, {cell: 1 for cell in space}, maps)
