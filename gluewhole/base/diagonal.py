"""Grids made diagonal: undoing, divisors, and which grids are alike."""

from math import gcd

from gluewhole.base.exact import bar_of, bezout, plain_grid, plain_product, plain_turned, plain_unit
from gluewhole.base.exact import stairs_and_change, stairs_of, turned_rows_of, undoing
from gluewhole.base.numbers import check_fit, check_grid, check_grids, check_least


def is_diagonal(rows):
    """Whether all numbers beside the diagonal are 0."""
    return all([number == 0 for place, row in enumerate(rows) for at, number in enumerate(row) if at != place])


def chained(numbers):
    """The divisors of the grid with these integers above 0 on its diagonal."""
    found = list(numbers)
    for place in range(len(found)):
        for later in range(place + 1, len(found)):
            divisor = gcd(found[place], found[later])
            found[later] = found[place] // divisor * found[later]
            found[place] = divisor
    return tuple(found)


def plain_divisors(grid):
    """The divisors of a grid with integers of any length.

    Stairs of the rows and of the columns by turns come to a diagonal: each turn that changes the first
    number makes it a proper divisor of what it was, and one that does not clears its row and column.
    """
    width, rows = grid
    steps = stairs_of(rows)[1]
    steps = stairs_of(turned_rows_of(steps, width))[1]
    while not is_diagonal(steps):
        steps = stairs_of(turned_rows_of(steps, len(steps)))[1]
    return chained([steps[place][place] for place in range(len(steps))])


def changed_core(core, change):
    """Stairs of as many rows as columns, and the change that makes them, put behind the first rows of one."""
    steps, further = stairs_and_change(core, len(core))[1:]
    size = len(core)
    done = plain_product(plain_grid(further, size), plain_grid(change[:size], len(change)))
    return steps, [list(row) for row in done[1]] + change[size:]


def parted(first, last):
    """Two lines of a diagonal, a number with its row of U and its column of V, the first number dividing the last."""
    one, upper, ahead = first
    other, lower, behind = last
    if other % one == 0:
        return first, last
    u, v, divisor = bezout(one, other)
    big, small = other // divisor, one // divisor
    row = [u * left + v * right for left, right in zip(upper, lower)]
    further = [small * right - big * left for left, right in zip(upper, lower)]
    column = [left + right for left, right in zip(ahead, behind)]
    beyond = [u * small * right - v * big * left for left, right in zip(ahead, behind)]
    return (divisor, row, column), (one * big, further, beyond)


def chained_lines(lines):
    """The lines of a diagonal, changed so that each number divides the next one.

    The least numbers go first, as the rows and columns would grow longest behind the greatest ones.
    """
    done, rest = [], list(lines)
    while rest:
        rest = sorted(rest, key=lambda line: line[0])
        first, others = rest[0], []
        for line in rest[1:]:
            first, last = parted(first, line)
            others.append(last)
        done.append(first)
        rest = others
    return done


def made_diagonal(grid):
    """The divisors of a grid with integers of any length, and two undone grids U and V with U A V diagonal."""
    width, rows = grid
    height = len(rows)
    core, left = stairs_and_change(rows, width)[1:]
    many = len(core)
    core, right = stairs_and_change(turned_rows_of(core, width), many)[1:]
    # The core is turned by now: its rows are columns of what U and V make of the grid.
    while not is_diagonal(core):
        core, left = changed_core(turned_rows_of(core, many), left)
        if not is_diagonal(core):
            core, right = changed_core(turned_rows_of(core, many), right)
    lines = chained_lines([(core[place][place], left[place], right[place]) for place in range(many)])
    left = [line[1] for line in lines] + left[many:]
    right = [line[2] for line in lines] + right[many:]
    return tuple([line[0] for line in lines]), plain_grid(left, height), plain_turned(plain_grid(right, width))


def divisors(grid):
    """The tuple of the divisors."""
    check_grid(grid)
    return plain_divisors(grid)


def rank(grid):
    """How many divisors there are."""
    check_grid(grid)
    return len(stairs_of(grid[1])[0])


def kernel_number(grid, m):
    """How many rows of integers from 0 to m - 1 the grid leads to noughts modulo m."""
    check_grid(grid)
    check_least(m, 1)
    found = plain_divisors(grid)
    number = 1
    for divisor in found:
        number *= gcd(m, divisor)
    for _ in range(grid[0] - len(found)):
        number *= m
    return number


def undone_answer(grid):
    """Whether a grid with as many rows as columns is undone: the true claim, with its paper."""
    check_grid(grid)
    size, rows = grid
    check_fit(size == len(rows), "there are not as many rows as columns")
    leads, steps, change = stairs_and_change(turned_rows_of(rows, size), size)
    if plain_grid(steps, size) == plain_unit(size):
        return ("undone", grid), plain_turned(plain_grid(change, size))
    wide = [leads[place] for place in range(len(leads)) if steps[place][leads[place]] != 1]
    lacking = [at for at in range(size) if at not in leads]
    missed = (wide + lacking)[0]
    # A row with one 1 that no columns of the grid add up to: what bars it does not have 0 alone.
    return ("not undone", grid), bar_of(leads, steps, plain_unit(size)[1][missed])


def divisors_answer(grid):
    """The claim that tells the divisors, with a paper."""
    check_grid(grid)
    found, left, right = made_diagonal(grid)
    return ("divisors", grid, found), (left, undoing(left), right, undoing(right))


def alike_answer(one, other):
    """Whether two grids are alike: the true claim, with a paper."""
    check_grids(one, other)
    if one[0] != other[0] or len(one[1]) != len(other[1]):
        return ("unlike", one, other), ()
    first, paper = divisors_answer(one)
    second, back = divisors_answer(other)
    some, others = first[2], second[2]
    if some != others:
        return ("unlike", one, other), (some, paper, others, back)
    ahead = plain_product(back[1], paper[0])
    ahead_back = plain_product(paper[1], back[0])
    behind = plain_product(paper[2], back[3])
    behind_back = plain_product(back[2], paper[3])
    return ("alike", one, other), (ahead, ahead_back, behind, behind_back)
