"""Sides of sheets: spaces of triangles that have two sides or one, and the table of the sides of a surface."""

from gluewhole.base.numbers import check_fit
from gluewhole.space.sheets import meet_in_pairs, meetings, turned_pairs
from gluewhole.space.spaces import check_space, plain_cells, plain_degree
from gluewhole.tables.tables import built


def sheet_meetings(space):
    """The faces of the cells of the degree 2 of a space with these cells, None unless the space is a sheet."""
    if plain_degree(space) > 2:
        return None
    met = meetings(plain_cells(space, 2))
    return met if meet_in_pairs(met) else None


def is_sheet(space):
    """Whether a space has no cells of the degree 3, and each cell of the degree 1 is a face of at most two."""
    check_space(space)
    return sheet_meetings(space) is not None


def sides_round(cells, met, point, start):
    """The sides of the cells of the degree 2 that neighbours round a point reach from one of them, itself with 1.

    Each of these cells has two faces with the point, and each of these faces two cells: so the cells go round.
    """
    sides, at, side = {}, start, 1
    entered = [other for other in cells[start] if other != point][0]
    while at not in sides:
        sides[at] = side
        entered = sum(cells[at]) - point - entered
        (one, sign), (other, turn) = met[(point, entered) if point < entered else (entered, point)]
        at, side = other if at == one else one, -side * sign * turn
    return sides


def told_surface(space):
    """The cells of the degree 2 of a surface, their faces with them, and the sides round each point.

    The sides are told by points, each time from the first cell round the point on. None unless this is a surface.
    """
    met = sheet_meetings(space)
    if met is None or not all([len(met.get(cell, ())) == 2 for cell in plain_cells(space, 1)]):
        return None
    cells, around = plain_cells(space, 2), {cell[0]: [] for cell in plain_cells(space, 0)}
    for at, cell in enumerate(cells):
        for point in cell:
            around[point].append(at)
    if not all([lot for lot in around.values()]):
        return None
    sides = {point: sides_round(cells, met, point, around[point][0]) for point in around}
    # The link of a point hangs together if all cells with the point go round it in one row.
    if not all([len(sides[point]) == len(around[point]) for point in around]):
        return None
    return cells, met, sides


def is_surface(space):
    """Whether a space is a sheet of triangles alone that go round each point, two of them at each stretch."""
    check_space(space)
    return told_surface(space) is not None


def turns_of(many, met):
    """For each of so many cells of the degree 2 the list of the pairs of a neighbour's index and of the turn."""
    found = [[] for _ in range(many)]
    for one, other, turn in turned_pairs(met):
        found[one].append((other, turn))
        found[other].append((one, turn))
    return [sorted(turns) for turns in found]


def way_to(came, at):
    """The row of neighbours to a cell, by the cells from which the cells were reached."""
    found = []
    while at is not None:
        found.append(at)
        at = came[at]
    return tuple(found[::-1])


def turned_from(near, start):
    """What rows of neighbours from a cell come to: the sides by indices, and None or else a twisted row."""
    sides, came, reached = {start: 1}, {start: None}, [start]
    while reached:
        further = []
        for at in reached:
            for other, turn in near[at]:
                if other not in sides:
                    sides[other], came[other] = sides[at] * turn, at
                    further.append(other)
                elif sides[other] != sides[at] * turn:
                    return sides, way_to(came, at) + way_to(came, other)[::-1]
        reached = further
    return sides, None


def sides_answer(space):
    """Whether a sheet has two sides: the claim that is true, with sides or a twisted row as its paper."""
    check_space(space)
    met = sheet_meetings(space)
    check_fit(met is not None, "the space is no sheet")
    cells = plain_cells(space, 2)
    near, sides = turns_of(len(cells), met), {}
    for at in range(len(cells)):
        if at not in sides:
            found, twisted = turned_from(near, at)
            if twisted is not None:
                return ("one side", cells), twisted
            sides.update(found)
    return ("two sides", cells), tuple([sides[at] for at in range(len(cells))])


def sides_table(space):
    """The table of the rank 1 whose maps tell how the first triangles above a face and above a cell turn."""
    check_space(space)
    told = told_surface(space)
    check_fit(told is not None, "the space is no surface")
    cells, met, sides = told
    maps = {}
    for cell, ((one, sign), (other, turn)) in met.items():
        for point in cell:
            maps[((point,), cell)] = (1, ((sides[point][one],),))
        maps[(cell, cells[one])] = (1, ((1,),))
        maps[(cell, cells[other])] = (1, ((-sign * turn,),))
    return built(space, {cell: 1 for cell in space}, maps)
