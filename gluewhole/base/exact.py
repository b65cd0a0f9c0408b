"""Rows and grids of integers of any length, without checks: what several stages build on.

Grids are pairs (width, rows) of tuples, as everywhere. The functions about stairs take and
return plain lists of rows, since they change them step by step.
"""

from math import gcd

# Of so many rows at most, as in tables, determinants are found sooner than stairs.
FEW = 4


def plain_dot(one, other):
    """The sum of the products."""
    return sum([left * right for left, right in zip(one, other)])


def row_more(one, other):
    """The sum of two rows."""
    return tuple([left + right for left, right in zip(one, other)])


def row_less(one, other):
    """The first row less the second one."""
    return tuple([left - right for left, right in zip(one, other)])


def plain_led(grid, row):
    """What the grid leads the row to."""
    return tuple([plain_dot(line, row) for line in grid[1]])


def plain_grid(rows, width):
    """The grid with these rows, of which there may be none."""
    return width, tuple([tuple(row) for row in rows])


def turned_rows_of(rows, width):
    """The columns of rows of this width, a list of tuples."""
    return list(zip(*rows)) if rows else [()] * width


def plain_turned(grid):
    """The grid with rows and columns exchanged."""
    width, rows = grid
    return len(rows), tuple(turned_rows_of(rows, width))


def plain_product(one, other):
    """The product of two grids, the first one as wide as the second one is high."""
    columns = turned_rows_of(other[1], other[0])
    # A call for each number would take a third of the time.
    return other[0], tuple([
        tuple([sum([left * right for left, right in zip(row, column)]) for column in columns]) for row in one[1]])


def square_product(one, other):
    """The product of two grids of one size, both as high as wide: in most tables they have one or two rows."""
    size, rows = one
    if size == 1:
        return 1, ((rows[0][0] * other[1][0][0],),)
    if size == 2:
        ((a, b), (c, d)), ((e, f), (g, h)) = rows, other[1]
        return 2, ((a * e + b * g, a * f + b * h), (c * e + d * g, c * f + d * h))
    return plain_product(one, other)


def plain_difference(one, other):
    """The first grid less the second one."""
    pairs = [list(zip(row, line)) for row, line in zip(one[1], other[1])]
    return plain_grid([[left - right for left, right in pair] for pair in pairs], one[0])


def plain_multiple(grid, number):
    """The grid times an integer."""
    return plain_grid([[number * item for item in row] for row in grid[1]], grid[0])


def plain_sum(one, other):
    """The sum of two grids."""
    return plain_difference(one, plain_multiple(other, -1))


def plain_read(row, grid):
    """What the row reads the grid to."""
    return plain_led(plain_turned(grid), row)


def plain_beside(one, other):
    """The grid with the columns of both, those of the first one ahead."""
    return plain_grid([left + right for left, right in zip(one[1], other[1])], one[0] + other[0])


def plain_columns(grid):
    """The columns of the grid, a tuple of rows."""
    return plain_turned(grid)[1]


def is_multiple(number, modulus):
    """Whether the integer counts as 0 by the modulus; by 0 just 0 does."""
    return number == 0 if modulus == 0 else number % modulus == 0


def are_multiples(row, modulus):
    """Whether all numbers of the row count as 0 by the modulus."""
    return all([is_multiple(number, modulus) for number in row])


def is_nought_grid(grid):
    """Whether the grid has 0 alone."""
    return not any([any(row) for row in grid[1]])


def plain_unit(size):
    """The unit grid."""
    return size, tuple([(0,) * at + (1,) + (0,) * (size - at - 1) for at in range(size)])


def plain_nought(height, width):
    """The grid with 0 alone."""
    return width, ((0,) * width,) * height


def bezout(one, other):
    """Integers (u, v, g): u times one and v times other add up to g, the greatest common divisor."""
    ahead, behind = one, other
    u, then = 1, 0
    while behind != 0:
        many = ahead // behind
        ahead, behind = behind, ahead - many * behind
        u, then = then, u - many * then
    if ahead < 0:
        ahead, u = -ahead, -u
    v = (ahead - u * one) // other if other != 0 else 0
    return u, v, ahead


def less_multiple(row, many, other):
    """The row less so many times the other one, as a list."""
    return [left - many * right for left, right in zip(row, other)]


def exchanged(step, row, at):
    """Two rows with the same lot as these: the first has their common divisor at this place, the second 0."""
    u, v, divisor = bezout(step[at], row[at])
    big, small = step[at] // divisor, row[at] // divisor
    first = [u * left + v * right for left, right in zip(step, row)]
    return first, [big * right - small * left for left, right in zip(step, row)]


def settle(leads, steps, changed):
    """Takes integers above a lead below it; `changed` is the first step that is not as it was."""
    many = len(steps)
    for place in reversed(range(many)):
        row = steps[place]
        for later in range(max(place + 1, changed), many):
            at = leads[later]
            times = row[at] // steps[later][at]
            if times != 0:
                row = less_multiple(row, times, steps[later])
        steps[place] = row


def put_row(leads, steps, row):
    """Puts a row to the lot of some stairs: the lists of the places of their leads and of their rows change.

    The stairs are settled behind each row, as integers would grow far beyond those of the stairs otherwise.
    """
    place, changed = 0, len(steps)
    for at in range(len(row)):
        if row[at] == 0:
            continue
        while place < len(leads) and leads[place] < at:
            place += 1
        if place == len(leads) or leads[place] > at:
            leads.insert(place, at)
            steps.insert(place, row if row[at] > 0 else [-number for number in row])
            changed = min(changed, place)
            break
        row = less_multiple(row, row[at] // steps[place][at], steps[place])
        if row[at] != 0:
            steps[place], row = exchanged(steps[place], row, at)
            changed = min(changed, place)
    settle(leads, steps, changed)


def stairs_of(rows):
    """The stairs with the same lot as the rows: the places of their leads, and their rows."""
    leads, steps = [], []
    for row in rows:
        put_row(leads, steps, list(row))
    return leads, steps


def stairs_and_change(rows, width):
    """The leads and the rows of stairs with the same lot, and an undone change of the rows.

    The first rows of the change, as many as the stairs have, make the stairs of the rows, the others
    make noughts. All this is one lot of stairs: that of the rows with the unit grid beside them.
    """
    units = plain_unit(len(rows))[1]
    leads, steps = stairs_of([list(row) + list(unit) for row, unit in zip(rows, units)])
    many = len([at for at in leads if at < width])
    return leads[:many], [step[:width] for step in steps[:many]], [step[width:] for step in steps]


def told_off(leads, steps, row):
    """How often each step is taken off the row, and what is left: noughts if the row is in their lot."""
    many, rest = [], list(row)
    for at, step in zip(leads, steps):
        many.append(rest[at] // step[at])
        rest = less_multiple(rest, many[-1], step)
    return many, rest


def solved_up(leads, steps, goal):
    """Integers (m, row), m above 0: the steps, at their leads alone, lead the row to m times the goal."""
    many = len(steps)
    m, row = 1, [0] * many
    for place in reversed(range(many)):
        step = steps[place]
        left = m * goal[place] - sum([step[leads[later]] * row[later] for later in range(place + 1, many)])
        pivot = step[leads[place]]
        divisor = gcd(left, pivot)
        m, row = m * (pivot // divisor), [number * (pivot // divisor) for number in row]
        row[place] = left // divisor
    return m, row


def bar_of(leads, steps, rest):
    """A pair (m, row) that bars what is left of a row [told_off]: each step is 0 modulo m, the rest is not."""
    bar = [0] * len(rest)
    short = [place for place in range(len(leads)) if rest[leads[place]] != 0]
    if short:
        goal = [1 if place == short[0] else 0 for place in range(len(leads))]
        m, row = solved_up(leads, steps, goal)
        for at, number in zip(leads, row):
            bar[at] = number
        return m, tuple(bar)
    column = [at for at in range(len(rest)) if rest[at] != 0][0]
    m, row = solved_up(leads, steps, [step[column] for step in steps])
    for at, number in zip(leads, row):
        bar[at] = -number
    bar[column] = m
    return 0, tuple(bar)


def determinant(rows):
    """The determinant of rows with as many integers as there are rows: of few ones, as it goes by the first row."""
    if len(rows) == 0:
        return 1
    if len(rows) == 1:
        return rows[0][0]
    if len(rows) == 2:
        (a, b), (c, d) = rows
        return a * d - b * c
    if len(rows) == 3:
        (a, b, c), (d, e, f), (g, h, i) = rows
        return a * (e * i - f * h) + b * (f * g - d * i) + c * (d * h - e * g)
    found, sign = 0, 1
    for at, number in enumerate(rows[0]):
        if number != 0:
            found = found + sign * number * determinant([row[:at] + row[at + 1:] for row in rows[1:]])
        sign = -sign
    return found


def is_undone(grid):
    """Whether a grid with as many rows as columns is undone by one: its determinant, or else its stairs tell it."""
    if grid[0] <= FEW:
        return determinant(grid[1]) in (1, -1)
    return plain_grid(stairs_of(grid[1])[1], grid[0]) == plain_unit(grid[0])


def bits_of(row):
    """The integer with the bits that tell which numbers of the row are odd."""
    return sum([(number & 1) << at for at, number in enumerate(row)])


def undone_modulo_two(rows):
    """What undoes the rows modulo 2: each row, and the unit row beside it, is held as the bits of an integer."""
    size = len(rows)
    masks = [bits_of(row) | (1 << (size + place)) for place, row in enumerate(rows)]
    for at in range(size):
        place = [k for k in range(at, size) if (masks[k] >> at) & 1 == 1][0]
        masks[at], masks[place] = masks[place], masks[at]
        for k in range(size):
            if k != at and (masks[k] >> at) & 1 == 1:
                masks[k] = masks[k] ^ masks[at]
    return [[(mask >> (size + column)) & 1 for column in range(size)] for mask in masks]


def near_nought(number, modulus):
    """The integer nearest to 0 that is equal to the number modulo an even modulus."""
    half = modulus // 2
    return (number + half) % modulus - half


def adjugate(rows):
    """The rows that times these few ones, either way, are the unit times their determinant."""
    size = len(rows)
    if size <= 1:
        return ((1,),) * size
    if size == 2:
        (a, b), (c, d) = rows
        return (d, -b), (-c, a)
    if size == 3:
        (a, b, c), (d, e, f), (g, h, i) = rows
        return (
            (e * i - f * h, c * h - b * i, b * f - c * e), (f * g - d * i, a * i - c * g, c * d - a * f),
            (d * h - e * g, b * g - a * h, a * e - b * d))
    found = []
    for column in range(size):
        rest = [row[:column] + row[column + 1:] for row in rows]
        signs = [-1 if (column + place) % 2 == 1 else 1 for place in range(size)]
        found.append(tuple([sign * determinant(rest[:at] + rest[at + 1:]) for at, sign in enumerate(signs)]))
    return tuple(found)


def with_sign(rows, number):
    """The rows, or with all signs changed for a number below 0."""
    return rows if number > 0 else tuple([tuple([-item for item in row]) for row in rows])


def undoing(grid):
    """The grid that undoes this one, which has to have one.

    If it is greater than those of tables, it is found modulo 2, 4, 16, 256 and so on: this keeps integers no longer
    than those of the outcome.
    """
    size = grid[0]
    if size <= FEW:
        return size, with_sign(adjugate(grid[1]), determinant(grid[1]))
    unit, bits = plain_unit(size), 1
    near = plain_grid(undone_modulo_two(grid[1]), size)
    product = plain_product(grid, near)
    while product != unit:
        bits = 2 * bits
        modulus = 1 << bits
        wanted = plain_difference(plain_multiple(unit, 2), product)
        wanted = plain_grid([[near_nought(number, modulus) for number in row] for row in wanted[1]], size)
        near = plain_product(near, wanted)
        near = plain_grid([[near_nought(number, modulus) for number in row] for row in near[1]], size)
        product = plain_product(grid, near)
    return near
