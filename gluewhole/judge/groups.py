"""Claims about groups and what leads them, and their papers: groups, maps of rows, exact grids, lesser rows."""

from gluewhole.base.exact import is_nought_grid, plain_beside, plain_led, plain_product, plain_sum, plain_unit
from gluewhole.judge.forms import are_bare, are_told_grids, are_told_sizes, is_chain, is_least, is_told_grid
from gluewhole.judge.forms import is_told_row, is_told_sized, is_tuple
from gluewhole.judge.grids import bars, is_diagonal_claim, takes_divisors, takes_kernel


def are_rises(low, high):
    """Whether one grid can stand behind another one, and both together have noughts alone."""
    return high[0] == len(low[1]) and is_nought_grid(plain_product(high, low))


def is_group_claim(members):
    """Whether these are two grids, the second one times the first one having noughts, a rank and divisors above 1."""
    if not is_tuple(members, 4) or not are_told_grids(members[:2], 2):
        return False
    low, high, rank, found = members
    return are_rises(low, high) and is_least(rank, 0) and is_chain(found, 2)


def is_single_claim(members):
    """Whether these are low, high, under and lead of claims about being one to one."""
    if not are_told_grids(members, 4):
        return False
    low, high, under, lead = members
    return lead[0] == len(low[1]) and len(lead[1]) == len(under[1]) and are_rises(low, high)


def is_onto_claim(members):
    """Whether these are high, under, above and lead of claims about being onto."""
    if not are_told_grids(members, 4):
        return False
    high, under, above, lead = members
    return lead[0] == high[0] and len(lead[1]) == len(under[1]) and are_rises(under, above)


def is_exact_claim(members):
    """Whether these are two grids, the second one as wide as the first one is high."""
    return are_told_grids(members, 2) and members[1][0] == len(members[0][1])


def is_lesser_claim(members):
    """Whether these are two bare rows of one number of degrees, told by sizes and grids."""
    if not is_tuple(members, 4) or not are_told_sizes(members[0]) or not are_told_sizes(members[2]):
        return False
    sizes, grids, others, more = members
    return len(sizes) == len(others) and are_bare(sizes, grids) and are_bare(others, more)


def takes_group(members, paper):
    """Whether the paper is (K, kernel, C, diagonal), which tells the kernel and the divisors of what is made in it."""
    low, high, rank, found = members
    if not is_tuple(paper, 4):
        return False
    base, kernel, told, diagonal = paper
    if not takes_base(high, base, kernel) or not is_told_sized(told, low[0], base[0]):
        return False
    ones = base[0] - rank - len(found)
    if ones < 0 or plain_product(base, told) != low:
        return False
    some = (1,) * ones + found
    return is_diagonal_claim((told, some)) and takes_divisors((told, some), diagonal)


def takes_base(grid, base, paper):
    """Whether a value is a grid of which a paper shows that it is a base of what the first grid leads to noughts."""
    return is_told_grid(base) and len(base[1]) == grid[0] and takes_kernel((grid, base), paper)


def first_rows(grid, many):
    """The grid of the first rows."""
    return grid[0], grid[1][:many]


def takes_single(members, paper):
    """Whether the paper is (K, k, Q, q, W): all that is led to made ones is made."""
    low, high, under, lead = members
    if not is_tuple(paper, 5):
        return False
    base, kernel, both, further, made = paper
    if not takes_base(high, base, kernel):
        return False
    columns = plain_beside(plain_product(lead, base), under)
    if not takes_base(columns, both, further) or not is_told_sized(made, both[0], low[0]):
        return False
    return plain_product(low, made) == plain_product(base, first_rows(both, base[0]))


def takes_lost(members, paper):
    """Whether the paper is (y, z, m, row): y is still, not made, and led to a made one."""
    low, high, under, lead = members
    if not is_tuple(paper, 4) or not is_told_row(paper[0], high[0]) or not is_told_row(paper[1], under[0]):
        return False
    telling, origin = paper[:2]
    if any(plain_led(high, telling)) or plain_led(lead, telling) != plain_led(under, origin):
        return False
    return bars(paper[2:], (low,), telling)


def takes_onto(members, paper):
    """Whether the paper is (K, k, Y, Z): each still telling is what a still one is led to, more a made one."""
    high, under, above, lead = members
    if not is_tuple(paper, 4) or not takes_base(above, paper[0], paper[1]):
        return False
    base, _, ahead, behind = paper
    if not is_told_sized(ahead, base[0], high[0]) or not is_told_sized(behind, base[0], under[0]):
        return False
    if not is_nought_grid(plain_product(high, ahead)):
        return False
    return plain_sum(plain_product(lead, ahead), plain_product(under, behind)) == base


def takes_missed(members, paper):
    """Whether the paper is (y, K, k, m, row): the row reads all that still ones are led to as 0, but not y."""
    high, under, above, lead = members
    if not is_tuple(paper, 5) or not is_told_row(paper[0], above[0]) or any(plain_led(above, paper[0])):
        return False
    telling, base, kernel = paper[:3]
    if not takes_base(high, base, kernel):
        return False
    return bars(paper[3:], (plain_product(lead, base), under), telling)


def takes_exact(members, paper):
    """Whether the paper is a pair of grids that split both grids."""
    into, onto = members
    size = onto[0]
    if not are_told_grids(paper, 2):
        return False
    ahead, behind = paper
    if not is_told_sized(ahead, size, into[0]) or not is_told_sized(behind, len(onto[1]), size):
        return False
    if plain_product(ahead, into) != plain_unit(into[0]) or plain_product(onto, behind) != plain_unit(len(onto[1])):
        return False
    return plain_sum(plain_product(into, ahead), plain_product(behind, onto)) == plain_unit(size)


def is_led(rows, others, value):
    """Whether the value is a map from bare rows, told by sizes and grids, to other ones."""
    sizes, grids = rows
    targets, further = others
    if not are_told_grids(value, len(sizes)):
        return False
    if not all([is_told_sized(grid, low, high) for grid, low, high in zip(value, sizes, targets)]):
        return False
    ahead = [plain_product(grid, low) for grid, low in zip(value[1:], grids)]
    return ahead == [plain_product(low, grid) for grid, low in zip(value, further)]


def is_stepped(grids, round_trip, steps, degree):
    """Whether what comes there and back, more what the steps tell, is the telling itself."""
    told = round_trip
    if degree > 0:
        told = plain_sum(told, plain_product(grids[degree - 1], steps[degree - 1]))
    if degree < len(steps):
        told = plain_sum(told, plain_product(steps[degree], grids[degree]))
    return told == plain_unit(told[0])


def takes_lesser(members, paper):
    """Whether the paper is (there, back, steps) by which both bare rows have the same groups."""
    sizes, grids, others, more = members
    if not is_tuple(paper, 3):
        return False
    there, back, steps = paper
    if not is_led((sizes, grids), (others, more), there) or not is_led((others, more), (sizes, grids), back):
        return False
    if not are_told_grids(steps, len(grids)):
        return False
    if not all([is_told_sized(grid, high, low) for grid, low, high in zip(steps, sizes, sizes[1:])]):
        return False
    if [plain_product(ahead, behind) for ahead, behind in zip(there, back)] != [plain_unit(size) for size in others]:
        return False
    trips = [plain_product(behind, ahead) for ahead, behind in zip(there, back)]
    return all([is_stepped(grids, trip, steps, degree) for degree, trip in enumerate(trips)])


GROUP_FORMS = {
    "group": is_group_claim, "one to one": is_single_claim, "lost": is_single_claim, "onto": is_onto_claim,
    "missed": is_onto_claim, "exact": is_exact_claim, "lesser": is_lesser_claim,
}
GROUP_PAPERS = {
    "group": takes_group, "one to one": takes_single, "lost": takes_lost, "onto": takes_onto, "missed": takes_missed,
    "exact": takes_exact, "lesser": takes_lesser,
}


def is_led_claim(kind, members):
    """Whether the members are those of a well made claim of one of these kinds."""
    fits = GROUP_FORMS[kind]
    return fits(members)


def takes_led_paper(kind, members, paper):
    """Whether the members are those of a well made claim of one of these kinds, and the value is a paper for it."""
    fits = GROUP_FORMS[kind]
    takes = GROUP_PAPERS[kind]
    return fits(members) and takes(members, paper)
