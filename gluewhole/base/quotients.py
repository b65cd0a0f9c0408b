"""Fractions, pairs of integers in lowest terms, and equations that fractions solve, without checks.

Rows of fractions are reckoned with as pairs (bottom, tops) of one bottom above 0 and of a row of integers.
"""

from math import gcd

from gluewhole.base.exact import FEW, adjugate, determinant, plain_led, plain_product, plain_turned, plain_unit
from gluewhole.base.exact import row_less, with_sign
from gluewhole.base.numbers import is_long_integer
from gluewhole.errors import InvalidRow


def is_fraction(value):
    """Whether the value is a pair of integers of any length in lowest terms, the second one above 0."""
    if not isinstance(value, tuple) or len(value) != 2 or not all([is_long_integer(item) for item in value]):
        return False
    return value[1] > 0 and gcd(value[0], value[1]) == 1


def is_fraction_row(value):
    """Whether the value is a tuple of fractions."""
    return isinstance(value, tuple) and all([is_fraction(item) for item in value])


def check_fraction_row(value):
    """InvalidRow unless the value is a tuple of fractions."""
    if not is_fraction_row(value):
        raise InvalidRow("a fraction row is a tuple of pairs of integers in lowest terms")


def lowest(top, bottom):
    """The fraction of two integers, the second one above 0."""
    divisor = gcd(top, bottom)
    return top // divisor, bottom // divisor


def fractions_of(bottom, tops):
    """The fraction row with one bottom above 0."""
    return tuple([lowest(top, bottom) for top in tops])


def whole_fractions(row):
    """The fraction row of a row of integers."""
    return fractions_of(1, row)


def with_bottom(row):
    """A fraction row as a pair (bottom, tops)."""
    bottom = 1
    for _, under in row:
        bottom = bottom // gcd(bottom, under) * under
    return bottom, tuple([top * (bottom // under) for top, under in row])


def fraction_less(one, other):
    """The first fraction row less the second one."""
    (bottom, tops), (under, others) = with_bottom(one), with_bottom(other)
    less = row_less([under * top for top in tops], [bottom * top for top in others])
    return fractions_of(bottom * under, less)


def square_of(row):
    """The sum of the squares of the numbers of a fraction row."""
    bottom, tops = with_bottom(row)
    return lowest(sum([top * top for top in tops]), bottom * bottom)


def led_fractions(grid, row):
    """What a grid of integers leads a fraction row to."""
    bottom, tops = with_bottom(row)
    return fractions_of(bottom, plain_led(grid, tops))


def less_step(row, step, at, last):
    """The row, times what the step has at a place, less the step, times what the row has there; by the last one.

    All numbers are determinants of integers, and so is this: the division leaves nothing.
    """
    pivot, number = step[at], row[at]
    if number == 0 and pivot == last:
        return row
    return [(pivot * left - number * right) // last for left, right in zip(row, step)]


def eliminated(rows, width):
    """The places of leads among the first columns, the steps with these leads, and what is left of other rows."""
    left, leads, steps, last = [list(row) for row in rows], [], [], 1
    for at in range(width):
        if not left:
            break
        found = [place for place in range(len(left)) if left[place][at] != 0]
        if found:
            step = left[found[0]]
            rest = left[:found[0]] + left[found[0] + 1:]
            left = [less_step(row, step, at, last) for row in rest]
            last = step[at]
            leads.append(at)
            steps.append(step)
    return leads, steps, left


def solved_back(corner, goal):
    """The row that steps, told at their leads alone, lead to the last lead times their goal.

    By determinants it has integers alone.
    """
    many = len(corner)
    row = [0] * many
    for place in reversed(range(many)):
        step = corner[place]
        left = corner[-1][-1] * goal[place] - sum([step[later] * row[later] for later in range(place + 1, many)])
        row[place] = left // step[place]
    return row


def solved(grid, wanted):
    """Integers (n, S), n above 0 and S a grid: the grid times S is n times the wanted one. None if there are none."""
    width, many = grid[0], wanted[0]
    leads, steps, left = eliminated([row + line for row, line in zip(grid[1], wanted[1])], width)
    if any([any(row) for row in left]):
        return None
    corner = [[step[at] for at in leads] for step in steps]
    columns = [solved_back(corner, [step[width + place] for step in steps]) for place in range(many)]
    n = corner[-1][-1] if corner else 1
    rows = [(0,) * many] * width
    for index, lead in enumerate(leads):
        rows[lead] = tuple([column[index] if n > 0 else -column[index] for column in columns])
    return abs(n), (many, tuple(rows))


def undone_rows(rows, width):
    """Integers (n, S), n above 0 and S a grid: the rows times S are n times the unit. None if there are none."""
    many = len(rows)
    if many > FEW:
        return solved((width, rows), plain_unit(many))
    leads, _, left = eliminated(rows, width)
    if left:
        return None
    corner = [tuple([row[at] for at in leads]) for row in rows]
    n, lines = determinant(corner), [(0,) * many] * width
    for lead, line in zip(leads, with_sign(adjugate(corner), n)):
        lines[lead] = line
    return abs(n), (many, tuple(lines))


def nearest_origin(grid, row):
    """A fraction row that the grid leads to the nearest made row of a fraction row, and this made row.

    What the made row lacks has the product 0 with each column: so the turned grid leads both to one row.
    """
    turned = plain_turned(grid)
    bottom, tops = with_bottom(row)
    goal = plain_led(turned, tops)
    n, found = solved(plain_product(turned, grid), (1, tuple([(number,) for number in goal])))
    origin = [line[0] for line in found[1]]
    return fractions_of(n * bottom, origin), fractions_of(n * bottom, plain_led(grid, origin))
