"""Finer spaces, whose cells are ladders of cells, and what leads tellings there and back.

Ladders are told by the places of their rungs, as the cells of a finer space.
"""

from itertools import combinations

from gluewhole.base.exact import plain_led, plain_unit, row_more
from gluewhole.base.numbers import is_row
from gluewhole.errors import InvalidCell, InvalidTelling, TooMany
from gluewhole.space.spaces import MOST_CELLS, MOST_LENGTH, check_space, is_cell, is_within, plain_cells, plain_faces
from gluewhole.tables.tables import MAX_SIZE, built, check_table, face_pairs, plain_led_by, told_maps, told_ranks
from gluewhole.tables.tellings import check_degree, check_telling, plain_spots


def places_above(space):
    """For each cell of a space the list of the places of the other cells of which it is a part, ascending."""
    above = {cell: [] for cell in space}
    for at, cell in enumerate(space):
        for some in [part for size in range(1, len(cell)) for part in combinations(cell, size)]:
            above[some].append(at)
    return [above[cell] for cell in space]


def checked_ladders(space):
    """All ladders, a list for each number of rungs; or TooMany(80).

    Each list ascends, as the places do by which its ladders go on.
    """
    above, found = places_above(space), [[(place,) for place in range(len(space))]]
    many = len(space)
    while found[-1] and many <= MOST_CELLS and len(found) < MOST_LENGTH:
        found.append([rungs + (at,) for rungs in found[-1] for at in above[rungs[-1]]])
        many += len(found[-1])
    if many > MOST_CELLS:
        raise TooMany(MOST_CELLS)
    return found


def checked_finer(space):
    """The finer space, or TooMany(80)."""
    return tuple([rungs for some in checked_ladders(space) for rungs in some])


def finer_space(space):
    """The space with the places of the cells as points, and the places of each ladder as a cell."""
    check_space(space)
    return checked_finer(space)


def is_ladder(space, value):
    """Whether the value is a cell of the finer space, however many cells this one has."""
    if not is_cell(value) or value[-1] >= len(space):
        return False
    rungs = [space[place] for place in value]
    return all([low != high and is_within(low, high) for low, high in zip(rungs, rungs[1:])])


def ladder(space, cell):
    """The rungs of a cell of the finer space."""
    check_space(space)
    if not is_ladder(space, cell):
        raise InvalidCell("this is no cell of the finer space")
    return tuple([space[place] for place in cell])


def last_lead(space):
    """The map from the finer space that leads the place of each cell to the last point of this cell."""
    check_space(space)
    checked_finer(space)
    return {place: cell[-1] for place, cell in enumerate(space)}


def finer_table(table):
    """The table on the finer space with the ranks of the last rungs."""
    check_table(table)
    space, ranks, maps = table.space, told_ranks(table), told_maps(table)
    finer = checked_finer(space)
    told = {cell: ranks[space[cell[-1]]] for cell in finer}
    grids = {}
    for face, cell in face_pairs(finer):
        low, high = space[face[-1]], space[cell[-1]]
        grids[(face, cell)] = plain_unit(ranks[high]) if low == high else plain_led_by(ranks, maps, low, high)
    return built(finer, told, grids)


def told_ladders(table, degree):
    """All ladders with up to one rung more than the degree tells, with the errors of functions of a finer table.

    They tell its sizes: so the finer table itself, with all its maps, is not made for one telling.
    """
    check_table(table)
    space, ranks = table.space, told_ranks(table)
    found = checked_ladders(space)
    for some in found:
        if sum([ranks[space[rungs[-1]]] for rungs in some]) > MAX_SIZE:
            raise TooMany(MAX_SIZE)
    check_degree(table, degree)
    return found[:degree + 1]


def checked_numbers(table, ladders, telling):
    """The dict from the ladders of a degree to the numbers of a telling of the finer table, or InvalidTelling."""
    space, ranks, found, begin = table.space, told_ranks(table), {}, 0
    if not is_row(telling) or len(telling) != sum([ranks[space[rungs[-1]]] for rungs in ladders]):
        raise InvalidTelling("this is no telling of the finer table")
    for rungs in ladders:
        end = begin + ranks[space[rungs[-1]]]
        found[rungs] = telling[begin:end]
        begin = end
    return found


def led_up(maps, some, cell, row):
    """What a row at a part of a cell says at the cell, led by the way that adds the least point first."""
    at = some
    for point in cell:
        if point not in some:
            further = tuple(sorted(at + (point,)))
            row, at = plain_led(maps[(at, further)], row), further
    return row


def ends_of(space, rungs):
    """The cell of the last points of rungs, None if two of them are alike: they never descend."""
    ends = tuple([space[place][-1] for place in rungs])
    return ends if all([low != high for low, high in zip(ends, ends[1:])]) else None


def added_sign(low, high):
    """The sign of the point that a cell has more than a face: it is put behind all greater ones."""
    greater = [point for point, other in zip(low, high[1:]) if point == other]
    # From the added point on, the points of the cell are those of the face, one place further.
    return -1 if len(greater) % 2 == 1 else 1


def full_ladders(space, ladders):
    """The dict from the cells of a degree to the pairs (sign, ladder) of the full ones among the ladders with it."""
    found = {}
    for rungs in ladders:
        cells = [space[place] for place in rungs]
        if len(cells[-1]) == len(rungs):
            sign = 1
            for low, high in zip(cells, cells[1:]):
                sign = sign * added_sign(low, high)
            found.setdefault(cells[-1], []).append((sign, rungs))
    return found


def sum_at(lot, told, rank):
    """The sum of what is told at the ladders of a lot, each as often as its number."""
    row = (0,) * rank
    for rungs, number in lot:
        row = row_more(row, [number * item for item in told[rungs]])
    return row


def led_there(table, degree, telling):
    """What a telling of the table leads there to: a telling of the finer table."""
    found = told_ladders(table, degree)
    check_telling(table, degree, telling)
    space, ranks, maps = table.space, told_ranks(table), told_maps(table)
    spots, row = plain_spots(table, degree), []
    for rungs in found[degree]:
        ends, last = ends_of(space, rungs), space[rungs[-1]]
        if ends is None:
            row.extend([0] * ranks[last])
        else:
            begin, end = spots[ends]
            row.extend(list(led_up(maps, ends, last, telling[begin:end])))
    return tuple(row)


def led_back(table, degree, telling):
    """What a telling of the finer table leads back to: a telling of the table."""
    ladders = told_ladders(table, degree)[degree]
    told, ranks, row = checked_numbers(table, ladders, telling), told_ranks(table), []
    full = full_ladders(table.space, ladders)
    for cell in plain_cells(table.space, degree):
        lot = [(rungs, sign) for sign, rungs in full[cell]]
        row.extend(list(sum_at(lot, told, ranks[cell])))
    return tuple(row)


def closed_by(lot, place):
    """The pairs of ladders and numbers that come if those of a lot are closed by the cell with a place."""
    found = []
    for rungs, number in lot:
        if place not in rungs:
            found.append((rungs + (place,), -number if len(rungs) in (1, 3) else number))
    return found


def closings(space, found):
    """The dict from ladders, told by numbers of rungs, to the pairs of ladders and numbers that tell the step there.

    The border of what is closed is 0: so what comes by closing it by one cell has it as its border. The ladder
    itself has this cell, and falls away.
    """
    told = {}
    for ladders in found:
        full = full_ladders(space, ladders)
        for rungs in ladders:
            ends = ends_of(space, rungs)
            lot = [] if ends is None else [(some, -sign) for sign, some in full[ends]]
            for sign, face in plain_faces(rungs):
                lot.extend([(some, -sign * number) for some, number in told[face]])
            told[rungs] = closed_by(lot, rungs[-1])
    return told


def telling_step(table, degree, telling):
    """The step of a telling of the finer table, a telling of one degree less, () for the degree 0."""
    found = told_ladders(table, degree)
    told = checked_numbers(table, found[degree], telling)
    if degree == 0:
        return ()
    space, ranks, row = table.space, told_ranks(table), []
    lots = closings(space, found[:degree])
    for rungs in found[degree - 1]:
        row.extend(list(sum_at(lots[rungs], told, ranks[space[rungs[-1]]])))
    return tuple(row)
