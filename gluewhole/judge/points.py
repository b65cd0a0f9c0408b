"""Claims about sides, false points and nearest rows, and their papers.

Most values that come are no papers: so a function that judges some looks at the claim's members, too, and can look
first at what takes least time.
"""

from gluewhole.base.exact import is_nought_grid, plain_led, plain_product, plain_turned
from gluewhole.base.numbers import have_integers
from gluewhole.base.quotients import fraction_less, is_fraction_row, led_fractions
from gluewhole.judge.forms import MOST_WIDE, are_integers, are_told_grids, is_least, is_told_grid, is_told_row, is_tuple
from gluewhole.judge.grids import bars
from gluewhole.near.false import MOST_LOTS
from gluewhole.near.lots import columns_at, differing_seats, ends_of_parts, is_lot_of, lots_number, lots_of, places_of
from gluewhole.space.sheets import meet_in_pairs, meetings, turned_pairs
from gluewhole.space.spaces import MOST_POINT


def is_one_tuple(members):
    """Whether this is one tuple."""
    return is_tuple(members, 1) and isinstance(members[0], tuple)


def are_rows(values, length):
    """Whether all of some values are tuples of so many integers."""
    return all([isinstance(row, tuple) and len(row) == length for row in values]) and have_integers(values)


def told_meetings(cells):
    """The faces of some cells with these, None unless the cells ascend and have three points, at most two at a face."""
    if not are_rows(cells, 3):
        return None
    if not all([0 <= first < middle < last <= MOST_POINT for first, middle, last in cells]):
        return None
    if not all([ahead < behind for ahead, behind in zip(cells, cells[1:])]):
        return None
    met = meetings(cells)
    return met if meet_in_pairs(met) else None


def are_sheet_cells(members):
    """Whether this is an ascending tuple of cells of three points, no two points standing in more than two."""
    return is_one_tuple(members) and told_meetings(members[0]) is not None


def takes_two_sides(members, paper):
    """Whether the paper has a side for each cell, that of one being that of each neighbour, times their turn."""
    if not is_one_tuple(members) or not is_told_row(paper, len(members[0])):
        return False
    if not all([side == 1 or side == -1 for side in paper]):
        return False
    met = told_meetings(members[0])
    return met is not None and all([paper[one] == paper[other] * turn for one, other, turn in turned_pairs(met)])


def takes_one_side(members, paper):
    """Whether the paper is the indices of neighbours behind one another, the last as the first one, that turn round."""
    if not is_one_tuple(members) or not are_integers(paper) or paper == () or paper[0] != paper[-1]:
        return False
    met = told_meetings(members[0])
    if met is None:
        return False
    turns, side = {}, 1
    for one, other, turn in turned_pairs(met):
        turns[(one, other)] = turns[(other, one)] = turn
    for step in zip(paper, paper[1:]):
        if step not in turns:
            return False
        side = side * turns[step]
    return side == -1


def are_told_ranks(sizes):
    """Whether the value is a tuple of integers from 0 on."""
    if not isinstance(sizes, tuple):
        return False
    return all([isinstance(size, int) and size is not True and size is not False and size >= 0 for size in sizes])


def are_seats(sizes, grid):
    """Whether these are a tuple of sizes and a grid of which the width is their sum."""
    return are_told_ranks(sizes) and is_told_grid(grid) and sum(sizes) == grid[0]


def is_lot_claim(members):
    """Whether these are sizes, a grid and a lot."""
    return is_tuple(members, 3) and are_seats(members[0], members[1]) and is_lot_of(members[0], members[2])


def is_turned_claim(members):
    """Whether these are sizes, a grid and an integer from 0 on."""
    return is_tuple(members, 3) and are_seats(members[0], members[1]) and is_least(members[2], 0)


def is_safe_claim(members):
    """Whether these are sizes, a grid and an integer, so that the lots of twice as many seats are few."""
    return is_turned_claim(members) and lots_number(members[0], 2 * members[2]) <= MOST_LOTS


def is_near_claim(members):
    """Whether these are sizes, a grid, a telling and an integer from 0 on."""
    if not is_tuple(members, 4) or not are_seats(members[0], members[1]):
        return False
    return is_told_row(members[2], members[1][0]) and is_least(members[3], 0)


def is_far_claim(members):
    """Whether these are sizes, a grid, a telling and an integer, so that the lots of so many seats are few."""
    return is_near_claim(members) and lots_number(members[0], members[3]) <= MOST_LOTS


def is_led_to_noughts(grid, row):
    """Whether the grid leads a row to noughts. Most rows in papers have many: so these are left out."""
    pairs = [(at, number) for at, number in enumerate(row) if number != 0]
    return pairs == [] or not any([sum([line[at] * number for at, number in pairs]) for line in grid[1]])


def is_whole_of(grid, value):
    """Whether the value is a row that the grid leads to noughts."""
    return is_told_row(value, grid[0]) and is_led_to_noughts(grid, value)


def are_undoings(papers, heights, width):
    """Whether the values are pairs (n, G), n above 0, of grids with these heights and one width."""
    if not all([is_tuple(value, 2) and is_tuple(value[1], 2) for value in papers]):
        return False
    if not all([is_tuple(value[1][1], height) for value, height in zip(papers, heights)]):
        return False
    heads = [(value[0], value[1][0]) for value in papers]
    if not have_integers(heads) or not all([n > 0 and wide == width for n, wide in heads]):
        return False
    return are_rows([row for value in papers for row in value[1][1]], width)


def sparse_columns(grid, begin, end):
    """Some of the columns of the grid, each as the pairs of an index and of a number other than 0."""
    return [[(at, row[place]) for at, row in enumerate(grid[1]) if row[place] != 0] for place in range(begin, end)]


def undoes(rows, columns, n):
    """Whether the rows times the columns, told by their numbers other than 0 alone, are n times the unit grid."""
    for index, row in enumerate(rows):
        told = [sum([row[at] * number for at, number in column]) for column in columns]
        if told[index] != n or told.count(0) != len(told) - 1:
            return False
    return True


def are_undone(sizes, grid, lots, papers):
    """Whether the values, as many as the lots, are pairs (n, G): G times the columns at a lot is n times the unit.

    The forms of all of them are looked at ahead of all sums, which take more time.
    """
    if not are_undoings(papers, [sum([sizes[at] for at in lot]) for lot in lots], len(grid[1])):
        return False
    ends, parts = ends_of_parts(sizes), {}
    for lot, (n, undoing) in zip(lots, papers):
        for seat in lot:
            if seat not in parts:
                parts[seat] = sparse_columns(grid, ends[seat][0], ends[seat][1])
        if not undoes(undoing[1], [column for at in lot for column in parts[at]], n):
            return False
    return True


def takes_held(members, paper):
    """Whether the paper undoes the columns at the lot."""
    if not is_lot_claim(members):
        return False
    sizes, grid, lot = members
    return are_undone(sizes, grid, (lot,), (paper,))


def takes_loose(members, paper):
    """Whether the paper is a whole other than 0 that lives on the lot alone."""
    if not is_lot_claim(members):
        return False
    sizes, grid, lot = members
    if not is_whole_of(grid, paper) or not any(paper):
        return False
    return all([at in lot for at in differing_seats(sizes, paper, (0,) * grid[0])])


def takes_safe(members, paper):
    """Whether the paper undoes the columns at each of the lots. What costs least is looked at first."""
    if not is_tuple(members, 3) or not are_told_ranks(members[0]) or not is_least(members[2], 0):
        return False
    sizes, grid, k = members
    # No grid is wider, and of so few seats lots are counted soon.
    if sum(sizes) > MOST_WIDE:
        return False
    many = lots_number(sizes, 2 * k)
    if many > MOST_LOTS or not is_tuple(paper, many) or not is_told_grid(grid) or sum(sizes) != grid[0]:
        return False
    return are_undone(sizes, grid, lots_of(sizes, 2 * k), paper)


def differ_at_most(sizes, row, telling, k):
    """Whether two tellings differ at so many seats at most: they surely do if so few of their numbers are unlike."""
    if sum([left != right for left, right in zip(row, telling)]) <= k:
        return True
    return len(differing_seats(sizes, row, telling)) <= k


def takes_confused(members, paper):
    """Whether the paper is two unlike wholes and a telling that differs from either at few seats."""
    if not is_tuple(members, 3) or not is_tuple(paper, 3) or not are_told_ranks(members[0]):
        return False
    sizes, grid, k = members
    width = sum(sizes)
    if not is_least(k, 0) or not all([isinstance(row, tuple) and len(row) == width for row in paper]):
        return False
    if not is_told_grid(grid) or grid[0] != width or not have_integers(paper):
        return False
    one, other, telling = paper
    if one == other or not is_led_to_noughts(grid, one) or not is_led_to_noughts(grid, other):
        return False
    return differ_at_most(sizes, one, telling, k) and differ_at_most(sizes, other, telling, k)


def takes_near(members, paper):
    """Whether the paper is a whole that differs from the telling at few seats."""
    if not is_near_claim(members):
        return False
    sizes, grid, telling, k = members
    return is_whole_of(grid, paper) and differ_at_most(sizes, paper, telling, k)


def takes_far(members, paper):
    """Whether the paper bars, for each lot, that its columns make the rise of the telling."""
    if not is_far_claim(members):
        return False
    sizes, grid, telling, k = members
    lots, rise = lots_of(sizes, k), plain_led(grid, telling)
    if not is_tuple(paper, len(lots)):
        return False
    return all([bars(value, (columns_at(grid, places_of(sizes, lot)),), rise) for lot, value in zip(lots, paper)])


def are_fractions(values, length):
    """Whether all of some values are fraction rows of this length."""
    return all([is_fraction_row(value) and len(value) == length for value in values])


def is_made_claim(members):
    """Whether these are a grid and two fraction rows that are as long as it is high."""
    return is_tuple(members, 3) and is_told_grid(members[0]) and are_fractions(members[1:], len(members[0][1]))


def is_still_claim(members):
    """Whether these are a grid and two fraction rows that are as long as it is wide."""
    return is_tuple(members, 3) and is_told_grid(members[0]) and are_fractions(members[1:], members[0][0])


def is_parted_claim(members):
    """Whether these are two grids with the product 0 and four fraction rows as long as the second one is wide."""
    if not is_tuple(members, 6) or not are_told_grids(members[:2], 2):
        return False
    one, other = members[:2]
    if other[0] != len(one[1]) or not are_fractions(members[2:], other[0]):
        return False
    return is_nought_grid(plain_product(other, one))


def leads_fractions(grid, value, row):
    """Whether the value is a fraction row that the grid leads to another one."""
    return is_fraction_row(value) and len(value) == grid[0] and led_fractions(grid, value) == row


def is_still_fraction(grid, row):
    """Whether the grid leads a fraction row to noughts."""
    return not any([top for top, _ in led_fractions(grid, row)])


def takes_nearest_made(members, paper):
    """Whether the grid leads the paper to the nearest row, and all columns have the product 0 with what it lacks."""
    if not is_made_claim(members):
        return False
    grid, row, near = members
    return leads_fractions(grid, paper, near) and is_still_fraction(plain_turned(grid), fraction_less(row, near))


def takes_nearest_still(members, paper):
    """Whether the nearest row is still, and the paper reads the grid to what it lacks."""
    if not is_still_claim(members):
        return False
    grid, row, near = members
    return is_still_fraction(grid, near) and leads_fractions(plain_turned(grid), paper, fraction_less(row, near))


def takes_parted(members, paper):
    """Whether the paper tells the first part as made and the last one as turned, and the rest is 0 for both grids."""
    if not is_parted_claim(members):
        return False
    one, other, row, made, rest, turned = members
    if not is_tuple(paper, 2) or fraction_less(fraction_less(row, made), turned) != rest:
        return False
    if not is_still_fraction(other, rest) or not is_still_fraction(plain_turned(one), rest):
        return False
    return leads_fractions(one, paper[0], made) and leads_fractions(plain_turned(other), paper[1], turned)


POINT_FORMS = {
    "two sides": are_sheet_cells, "one side": are_sheet_cells, "held": is_lot_claim, "loose": is_lot_claim,
    "safe": is_safe_claim, "confused": is_turned_claim, "near": is_near_claim, "far": is_far_claim,
    "nearest made": is_made_claim, "nearest still": is_still_claim, "parted": is_parted_claim,
}
POINT_PAPERS = {
    "two sides": takes_two_sides, "one side": takes_one_side, "held": takes_held, "loose": takes_loose,
    "safe": takes_safe, "confused": takes_confused, "near": takes_near, "far": takes_far,
    "nearest made": takes_nearest_made, "nearest still": takes_nearest_still, "parted": takes_parted,
}


def is_point_claim(kind, members):
    """Whether the members are those of a well made claim of one of these kinds."""
    fits = POINT_FORMS[kind]
    return fits(members)


def takes_point_paper(kind, members, paper):
    """Whether the members are those of a well made claim of one of these kinds, and the value is a paper for it."""
    takes = POINT_PAPERS[kind]
    return takes(members, paper)
