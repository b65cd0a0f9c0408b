"""Claims about one or two grids, and their papers: undone, diagonal, alike, made, same lots, kernels."""

from gluewhole.base.exact import are_multiples, is_multiple, is_nought_grid, plain_dot, plain_led, plain_multiple
from gluewhole.base.exact import plain_product, plain_read, plain_sum, plain_turned, plain_unit, row_less
from gluewhole.judge.forms import are_told_grids, is_chain, is_least, is_told_grid, is_told_row, is_told_sized, is_tuple


def is_square(members):
    """Whether this is one grid that is as high as wide."""
    return are_told_grids(members, 1) and members[0][0] == len(members[0][1])


def is_diagonal_claim(members):
    """Whether these are a grid and what can be its divisors."""
    if not is_tuple(members, 2) or not is_told_grid(members[0]) or not is_chain(members[1], 1):
        return False
    return len(members[1]) <= min(members[0][0], len(members[0][1]))


def is_pair_claim(members):
    """Whether these are two grids."""
    return are_told_grids(members, 2)


def is_row_claim(members):
    """Whether these are a grid and a row that is as long as the grid is high."""
    return is_tuple(members, 2) and is_told_grid(members[0]) and is_told_row(members[1], len(members[0][1]))


def is_modulo_claim(members):
    """Whether these are a grid, a row that is as long as the grid is high, and an integer from 1 on."""
    return is_tuple(members, 3) and is_row_claim(members[:2]) and is_least(members[2], 1)


def is_lots_claim(members):
    """Whether these are two grids of one width."""
    return are_told_grids(members, 2) and members[0][0] == members[1][0]


def is_kernel_claim(members):
    """Whether these are two grids, the second one as high as the first one is wide."""
    return are_told_grids(members, 2) and len(members[1][1]) == members[0][0]


def undo_both(one, other):
    """Whether the second value is a grid that undoes the first one, a grid."""
    size = one[0]
    return is_told_sized(other, size, size) and plain_product(one, other) == plain_unit(size)


def reads_noughts(value, grids, height):
    """Whether the value is a pair (m, row) of which the row reads these grids of one height to noughts modulo m."""
    if not is_tuple(value, 2) or not is_least(value[0], 0) or not is_told_row(value[1], height):
        return False
    return all([are_multiples(plain_read(value[1], grid), value[0]) for grid in grids])


def bars(value, grids, row):
    """Whether the value is such a pair that reads a row, as long as the grids are high, as something else."""
    return reads_noughts(value, grids, len(row)) and not is_multiple(plain_dot(value[1], row), value[0])


def takes_undone(members, paper):
    """Whether the paper is what undoes the grid."""
    return undo_both(members[0], paper)


def takes_not_undone(members, paper):
    """Whether the paper is a pair (m, row): the row reads the grid to noughts, but is none itself."""
    grid = members[0]
    return reads_noughts(paper, (grid,), grid[0]) and not are_multiples(paper[1], paper[0])


def diagonal_of(numbers, width, height):
    """The grid with these numbers on its diagonal."""
    rows = [(0,) * at + (number,) + (0,) * (width - at - 1) for at, number in enumerate(numbers)]
    return width, tuple(rows) + ((0,) * width,) * (height - len(numbers))


def are_undone_sides(grid, paper):
    """Whether the paper is four grids: one to stand ahead of the grid, one behind it, each with what undoes it."""
    if not are_told_grids(paper, 4):
        return False
    width, height = grid[0], len(grid[1])
    if not is_told_sized(paper[0], height, height) or not is_told_sized(paper[2], width, width):
        return False
    return undo_both(paper[0], paper[1]) and undo_both(paper[2], paper[3])


def takes_divisors(members, paper):
    """Whether the paper is two undone grids between which the grid is diagonal, and what undoes them."""
    grid, numbers = members
    if not are_undone_sides(grid, paper):
        return False
    product = plain_product(plain_product(paper[0], grid), paper[2])
    return product == diagonal_of(numbers, grid[0], len(grid[1]))


def takes_alike(members, paper):
    """Whether the paper is two undone grids between which the first grid is the second one, and what undoes them."""
    one, other = members
    if not are_undone_sides(one, paper):
        return False
    return plain_product(plain_product(paper[0], one), paper[2]) == other


def takes_unlike(members, paper):
    """Whether the paper is () for unlike sizes, or tells unlike divisors of both."""
    one, other = members
    if one[0] != other[0] or len(one[1]) != len(other[1]):
        return paper == ()
    if not is_tuple(paper, 4) or not is_diagonal_claim((one, paper[0])) or not is_diagonal_claim((other, paper[2])):
        return False
    some, first, others, last = paper
    return some != others and takes_divisors((one, some), first) and takes_divisors((other, others), last)


def takes_made(members, paper):
    """Whether the paper is a row that the grid leads to the row."""
    grid, row = members
    return is_told_row(paper, grid[0]) and plain_led(grid, paper) == row


def takes_barred(members, paper):
    """Whether the paper is a pair that bars the row."""
    return bars(paper, (members[0],), members[1])


def takes_made_modulo(members, paper):
    """Whether the paper is a row that the grid leads to the row modulo m."""
    grid, row, m = members
    return is_told_row(paper, grid[0]) and are_multiples(row_less(plain_led(grid, paper), row), m)


def takes_barred_modulo(members, paper):
    """Whether the paper is a row that bars the row modulo m."""
    return bars((members[2], paper), (members[0],), members[1])


def takes_same_lot(members, paper):
    """Whether the paper is two grids that make the rows of both grids of one another."""
    one, other = members
    if not are_told_grids(paper, 2):
        return False
    ahead, back = paper
    many, further = len(one[1]), len(other[1])
    if not is_told_sized(ahead, many, further) or not is_told_sized(back, further, many):
        return False
    return plain_product(ahead, one) == other and plain_product(back, other) == one


def takes_unlike_lots(members, paper):
    """Whether the paper is a row of one of both grids, by its index, and a pair that bars it by the other one."""
    if not is_tuple(paper, 3) or not is_least(paper[0], 0) or not is_least(paper[1], 0) or paper[0] > 1:
        return False
    which, index, bar = paper
    rows, against = members[which][1], members[1 - which]
    return index < len(rows) and bars(bar, (plain_turned(against),), rows[index])


def takes_kernel(members, paper):
    """Whether the paper is (n, L, M) by which the second grid is a base of what the first one leads to noughts."""
    grid, base = members
    if not is_tuple(paper, 3) or not is_least(paper[0], 1):
        return False
    n, back, further = paper
    width, many = grid[0], base[0]
    if not is_told_sized(back, width, many) or not is_told_sized(further, len(grid[1]), width):
        return False
    if not is_nought_grid(plain_product(grid, base)) or plain_product(back, base) != plain_unit(many):
        return False
    told = plain_sum(plain_multiple(plain_product(base, back), n), plain_product(further, grid))
    return told == plain_multiple(plain_unit(width), n)


GRID_FORMS = {
    "undone": is_square, "not undone": is_square, "divisors": is_diagonal_claim, "alike": is_pair_claim,
    "unlike": is_pair_claim, "made": is_row_claim, "barred": is_row_claim, "made modulo": is_modulo_claim,
    "barred modulo": is_modulo_claim, "same lot": is_lots_claim, "unlike lots": is_lots_claim,
    "kernel": is_kernel_claim,
}
GRID_PAPERS = {
    "undone": takes_undone, "not undone": takes_not_undone, "divisors": takes_divisors, "alike": takes_alike,
    "unlike": takes_unlike, "made": takes_made, "barred": takes_barred, "made modulo": takes_made_modulo,
    "barred modulo": takes_barred_modulo, "same lot": takes_same_lot, "unlike lots": takes_unlike_lots,
    "kernel": takes_kernel,
}


def is_grid_claim(kind, members):
    """Whether the members are those of a well made claim of one of these kinds."""
    fits = GRID_FORMS[kind]
    return fits(members)


def takes_grid_paper(kind, members, paper):
    """Whether the members are those of a well made claim of one of these kinds, and the value is a paper for it."""
    fits = GRID_FORMS[kind]
    takes = GRID_PAPERS[kind]
    return fits(members) and takes(members, paper)
