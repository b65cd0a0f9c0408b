"""Finer spaces, whose cells are ladders of cells, and what leads tellings there and back."""

from gluewhole.base.exact import plain_led, plain_unit, row_more
from gluewhole.errors import InvalidCell
from gluewhole.space.spaces import MOST_LENGTH, check_space, checked_size, is_cell, is_within, ordered, plain_cells
from gluewhole.space.spaces import plain_faces
from gluewhole.tables.tables import built, check_table, face_pairs, plain_led_by
from gluewhole.tables.tellings import check_degree, check_telling, plain_spots


def is_under(some, cell):
    """Whether the first cell is a part of the second one and unlike it."""
    return some != cell and is_within(some, cell)


def checked_finer(space):
    """The finer space, or TooMany(80)."""
    above = [[at for at, cell in enumerate(space) if is_under(some, cell)] for some in space]
    found = [(place,) for place in range(len(space))]
    longest = found
    for _ in range(MOST_LENGTH - 1):
        longest = [rungs + (at,) for rungs in longest for at in above[rungs[-1]]]
        found = found + longest
        checked_size(found)
    return ordered(checked_size(found))


def finer_space(space):
    """The space with the places of the cells as points, and the places of each ladder as a cell."""
    check_space(space)
    return checked_finer(space)


def rungs_of(space, cell):
    """The cells with these places in a space."""
    return tuple([space[place] for place in cell])


def is_ladder(space, value):
    """Whether the value is a cell of the finer space, however many cells this one has."""
    if not is_cell(value) or value[-1] >= len(space):
        return False
    rungs = rungs_of(space, value)
    return all([is_under(low, high) for low, high in zip(rungs, rungs[1:])])


def ladder(space, cell):
    """The rungs of a cell of the finer space."""
    check_space(space)
    if not is_ladder(space, cell):
        raise InvalidCell("this is no cell of the finer space")
    return rungs_of(space, cell)


def last_lead(space):
    """The map from the finer space that leads the place of each cell to the last point of this cell."""
    check_space(space)
    checked_finer(space)
    return {place: cell[-1] for place, cell in enumerate(space)}


def finer_table(table):
    """The table on the finer space with the ranks of the last rungs."""
    check_table(table)
    space, ranks, maps = table.space, table.ranks, table.maps
    finer = checked_finer(space)
    told = {cell: ranks[space[cell[-1]]] for cell in finer}
    grids = {}
    for face, cell in face_pairs(finer):
        low, high = space[face[-1]], space[cell[-1]]
        grids[(face, cell)] = plain_unit(ranks[high]) if low == high else plain_led_by(ranks, maps, low, high)
    return built(finer, told, grids)


def ends_of(rungs):
    """The cell of the last points of rungs, None if two of them are alike."""
    ends = tuple([cell[-1] for cell in rungs])
    return ends if len(set(ends)) == len(ends) else None


def full_ladders(cell):
    """The pairs (sign, rungs) of all full ladders with this last rung.

    A point that is added last goes behind all greater ones: this turns the sign of the face without it.
    """
    if len(cell) == 1:
        return [(1, (cell,))]
    turn = 1 if len(cell) == 3 else -1
    found = []
    for sign, face in plain_faces(cell):
        found.extend([(turn * sign * ahead, rungs + (cell,)) for ahead, rungs in full_ladders(face)])
    return found


def led_there(table, degree, telling):
    """What a telling of the table leads there to: a telling of the finer table."""
    finer = finer_table(table)
    check_degree(table, degree)
    check_telling(table, degree, telling)
    space, ranks, maps = table.space, table.ranks, table.maps
    spots, row = plain_spots(table, degree), []
    for cell in plain_cells(finer.space, degree):
        rungs = rungs_of(space, cell)
        ends = ends_of(rungs)
        if ends is None:
            row.extend([0] * ranks[rungs[-1]])
        else:
            begin, end = spots[ends]
            row.extend(list(plain_led(plain_led_by(ranks, maps, ends, rungs[-1]), telling[begin:end])))
    return tuple(row)


def numbers_at(table, finer, degree, telling):
    """The dict from the rungs of the ladders of a degree to the numbers of a telling of the finer table there."""
    spots = plain_spots(finer, degree)
    return {rungs_of(table.space, cell): telling[begin:end] for cell, (begin, end) in spots.items()}


def sum_at(lot, told, rank):
    """The sum of what is told at the ladders of a lot, each as often as its number."""
    row = (0,) * rank
    for rungs, number in lot:
        row = row_more(row, [number * item for item in told[rungs]])
    return row


def led_back(table, degree, telling):
    """What a telling of the finer table leads back to: a telling of the table."""
    finer = finer_table(table)
    check_degree(table, degree)
    check_telling(finer, degree, telling)
    ranks, told, row = table.ranks, numbers_at(table, finer, degree, telling), []
    for cell in plain_cells(table.space, degree):
        lot = [(rungs, sign) for sign, rungs in full_ladders(cell)]
        row.extend(list(sum_at(lot, told, ranks[cell])))
    return tuple(row)


def closed_by(lot, cell):
    """The pairs of ladders and numbers that come if those of a lot are closed by a cell."""
    found = []
    for rungs, number in lot:
        if cell not in rungs:
            found.append((rungs + (cell,), -number if len(rungs) in (1, 3) else number))
    return found


def closing(rungs):
    """The pairs of ladders and numbers that tell the step at a ladder.

    The border of what is closed is 0: so what comes by closing it by one cell has it as its border.
    """
    lot, ends = [(rungs, 1)], ends_of(rungs)
    if ends is not None:
        lot.extend([(full, -sign) for sign, full in full_ladders(ends)])
    for sign, face in plain_faces(rungs):
        lot.extend([(some, -sign * number) for some, number in closing(face)])
    return closed_by(lot, rungs[-1])


def telling_step(table, degree, telling):
    """The step of a telling of the finer table, a telling of one degree less, () for the degree 0."""
    finer = finer_table(table)
    check_degree(table, degree)
    check_telling(finer, degree, telling)
    told, row = numbers_at(table, finer, degree, telling), []
    for cell in plain_cells(finer.space, degree - 1):
        rungs = rungs_of(table.space, cell)
        row.extend(list(sum_at(closing(rungs), told, table.ranks[rungs[-1]])))
    return tuple(row)
