"""Claims about sides, false points and nearest rows, and their papers."""

from gluewhole.base.exact import is_nought_grid, plain_led, plain_multiple, plain_product, plain_turned, plain_unit
from gluewhole.base.quotients import fraction_less, is_fraction_row, led_fractions
from gluewhole.judge.forms import are_told_grids, are_integers, is_least, is_told_grid, is_told_row, is_told_sized
from gluewhole.judge.forms import is_tuple
from gluewhole.judge.grids import bars
from gluewhole.near.false import MOST_LOTS
from gluewhole.near.lots import columns_at, differing_seats, is_lot_of, lots_number, lots_of, places_of
from gluewhole.space.spaces import is_cell, plain_faces


def meetings(cells):
    """The dict from the faces of some cells to the pairs of the index of a cell with the face and of its sign there."""
    found = {}
    for at, cell in enumerate(cells):
        for sign, face in plain_faces(cell):
            found[face] = found.get(face, ()) + ((at, sign),)
    return found


def turns_between(cells):
    """The dict from the pairs of indices of neighbours to their turns."""
    found = {}
    for pair in meetings(cells).values():
        if len(pair) == 2:
            (one, sign), (other, further) = pair
            found[(one, other)] = -sign * further
            found[(other, one)] = -sign * further
    return found


def are_sheet_cells(members):
    """Whether this is an ascending tuple of cells of three points, no two points standing in more than two."""
    if not is_tuple(members, 1) or not isinstance(members[0], tuple):
        return False
    cells = members[0]
    if not all([is_cell(cell) and len(cell) == 3 for cell in cells]):
        return False
    if not all([ahead < behind for ahead, behind in zip(cells, cells[1:])]):
        return False
    return all([len(pairs) <= 2 for pairs in meetings(cells).values()])


def takes_two_sides(members, paper):
    """Whether the paper has a side for each cell, that of one being that of each neighbour, times their turn."""
    if not is_told_row(paper, len(members[0])) or not all([side in (1, -1) for side in paper]):
        return False
    turns = turns_between(members[0])
    return all([paper[one] == paper[other] * turns[(one, other)] for one, other in turns])


def takes_one_side(members, paper):
    """Whether the paper is the indices of neighbours behind one another, the last as the first one, that turn round."""
    if not are_integers(paper) or paper == () or paper[0] != paper[-1]:
        return False
    turns, side = turns_between(members[0]), 1
    for step in zip(paper, paper[1:]):
        if step not in turns:
            return False
        side = side * turns[step]
    return side == -1


def are_seats(sizes, grid):
    """Whether these are a tuple of sizes and a grid of which the width is their sum."""
    if not are_integers(sizes) or not all([size >= 0 for size in sizes]):
        return False
    return is_told_grid(grid) and sum(sizes) == grid[0]


def is_lot_claim(members):
    """Whether these are sizes, a grid and a lot."""
    return is_tuple(members, 3) and are_seats(members[0], members[1]) and is_lot_of(members[0], members[2])


def is_turned_claim(members):
    """Whether these are sizes, a grid and an integer from 0 on."""
    return is_tuple(members, 3) and are_seats(members[0], members[1]) and is_least(members[2], 0)


def is_safe_claim(members):
    """Whether these are sizes, a grid and an integer, so that the lots of twice as many seats are few."""
    return is_turned_claim(members) and lots_number(members[0], 2 * members[2]) <= MOST_LOTS


def is_near_claim(members):
    """Whether these are sizes, a grid, a telling and an integer from 0 on."""
    if not is_tuple(members, 4) or not are_seats(members[0], members[1]):
        return False
    return is_told_row(members[2], members[1][0]) and is_least(members[3], 0)


def is_far_claim(members):
    """Whether these are sizes, a grid, a telling and an integer, so that the lots of so many seats are few."""
    return is_near_claim(members) and lots_number(members[0], members[3]) <= MOST_LOTS


def is_whole_of(grid, value):
    """Whether the value is a row that the grid leads to noughts."""
    return is_told_row(value, grid[0]) and not any(plain_led(grid, value))


def is_undone_at(sizes, grid, lot, value):
    """Whether the value is a pair (n, G), n above 0: G times the columns at the lot is n times the unit grid."""
    if not is_tuple(value, 2) or not is_least(value[0], 1):
        return False
    columns = columns_at(grid, places_of(sizes, lot))
    if not is_told_sized(value[1], len(grid[1]), columns[0]):
        return False
    return plain_product(value[1], columns) == plain_multiple(plain_unit(columns[0]), value[0])


def takes_held(members, paper):
    """Whether the paper undoes the columns at the lot."""
    sizes, grid, lot = members
    return is_undone_at(sizes, grid, lot, paper)


def takes_loose(members, paper):
    """Whether the paper is a whole other than 0 that lives on the lot alone."""
    sizes, grid, lot = members
    if not is_whole_of(grid, paper) or not any(paper):
        return False
    return all([at in lot for at in differing_seats(sizes, paper, (0,) * grid[0])])


def takes_safe(members, paper):
    """Whether the paper undoes the columns at each of the lots."""
    sizes, grid, k = members
    lots = lots_of(sizes, 2 * k)
    if not is_tuple(paper, len(lots)):
        return False
    return all([is_undone_at(sizes, grid, lot, value) for lot, value in zip(lots, paper)])


def takes_confused(members, paper):
    """Whether the paper is two unlike wholes and a telling that differs from either at few seats."""
    sizes, grid, k = members
    if not is_tuple(paper, 3) or not is_told_row(paper[2], grid[0]):
        return False
    one, other, telling = paper
    if not is_whole_of(grid, one) or not is_whole_of(grid, other) or one == other:
        return False
    return len(differing_seats(sizes, one, telling)) <= k and len(differing_seats(sizes, other, telling)) <= k


def takes_near(members, paper):
    """Whether the paper is a whole that differs from the telling at few seats."""
    sizes, grid, telling, k = members
    return is_whole_of(grid, paper) and len(differing_seats(sizes, paper, telling)) <= k


def takes_far(members, paper):
    """Whether the paper bars, for each lot, that its columns make the rise of the telling."""
    sizes, grid, telling, k = members
    lots, rise = lots_of(sizes, k), plain_led(grid, telling)
    if not is_tuple(paper, len(lots)):
        return False
    return all([bars(value, (columns_at(grid, places_of(sizes, lot)),), rise) for lot, value in zip(lots, paper)])


def are_fractions(values, length):
    """Whether all of some values are fraction rows of this length."""
    return all([is_fraction_row(value) and len(value) == length for value in values])


def is_made_claim(members):
    """Whether these are a grid and two fraction rows that are as long as it is high."""
    return is_tuple(members, 3) and is_told_grid(members[0]) and are_fractions(members[1:], len(members[0][1]))


def is_still_claim(members):
    """Whether these are a grid and two fraction rows that are as long as it is wide."""
    return is_tuple(members, 3) and is_told_grid(members[0]) and are_fractions(members[1:], members[0][0])


def is_parted_claim(members):
    """Whether these are two grids with the product 0 and four fraction rows as long as the second one is wide."""
    if not is_tuple(members, 6) or not are_told_grids(members[:2], 2):
        return False
    one, other = members[:2]
    if other[0] != len(one[1]) or not are_fractions(members[2:], other[0]):
        return False
    return is_nought_grid(plain_product(other, one))


def leads_fractions(grid, value, row):
    """Whether the value is a fraction row that the grid leads to another one."""
    return is_fraction_row(value) and len(value) == grid[0] and led_fractions(grid, value) == row


def is_still_fraction(grid, row):
    """Whether the grid leads a fraction row to noughts."""
    return not any([top for top, _ in led_fractions(grid, row)])


def takes_nearest_made(members, paper):
    """Whether the grid leads the paper to the nearest row, and all columns have the product 0 with what it lacks."""
    grid, row, near = members
    return leads_fractions(grid, paper, near) and is_still_fraction(plain_turned(grid), fraction_less(row, near))


def takes_nearest_still(members, paper):
    """Whether the nearest row is still, and the paper reads the grid to what it lacks."""
    grid, row, near = members
    return is_still_fraction(grid, near) and leads_fractions(plain_turned(grid), paper, fraction_less(row, near))


def takes_parted(members, paper):
    """Whether the paper tells the first part as made and the last one as turned, and the rest is 0 for both grids."""
    one, other, row, made, rest, turned = members
    if not is_tuple(paper, 2) or fraction_less(fraction_less(row, made), turned) != rest:
        return False
    if not is_still_fraction(other, rest) or not is_still_fraction(plain_turned(one), rest):
        return False
    return leads_fractions(one, paper[0], made) and leads_fractions(plain_turned(other), paper[1], turned)


POINT_FORMS = {
    "two sides": are_sheet_cells, "one side": are_sheet_cells, "held": is_lot_claim, "loose": is_lot_claim,
    "safe": is_safe_claim, "confused": is_turned_claim, "near": is_near_claim, "far": is_far_claim,
    "nearest made": is_made_claim, "nearest still": is_still_claim, "parted": is_parted_claim,
}
POINT_PAPERS = {
    "two sides": takes_two_sides, "one side": takes_one_side, "held": takes_held, "loose": takes_loose,
    "safe": takes_safe, "confused": takes_confused, "near": takes_near, "far": takes_far,
    "nearest made": takes_nearest_made, "nearest still": takes_nearest_still, "parted": takes_parted,
}


def is_point_claim(kind, members):
    """Whether the members are those of a well made claim of one of these kinds."""
    if kind not in POINT_FORMS:
        return False
    fits = POINT_FORMS[kind]
    return fits(members)


def takes_point_paper(kind, members, paper):
    """Whether the value is a paper for a well made claim of one of these kinds."""
    if kind not in POINT_PAPERS:
        return False
    takes = POINT_PAPERS[kind]
    return takes(members, paper)
