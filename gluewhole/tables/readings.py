"""Readings of tellings on bare rows: their falls and groups, pairings with tellings, and links."""

from math import gcd

from gluewhole.base.exact import less_multiple, plain_dot, plain_led, plain_read, plain_turned
from gluewhole.base.exact import stairs_and_change, turned_rows_of
from gluewhole.base.made import combined, is_reading, plain_made_answer
from gluewhole.base.numbers import check_between, check_fit, is_row
from gluewhole.errors import InvalidRow
from gluewhole.tables.groups import Makers, Rows, check_bare, check_degree_of, check_telling_in, is_still_in
from gluewhole.tables.groups import plain_group

MOST_MODULUS = 1000000


def check_row_of(rows, degree, row):
    """InvalidRow unless the value is a row of as many integers as the size of the degree tells."""
    if not is_row(row) or len(row) != rows.sizes[degree]:
        raise InvalidRow("the row has not as many integers as the size of the degree")


def check_degree_below(rows, degree):
    """InvalidRows, and InvalidNumber unless the degree is one of the rows other than the greatest one."""
    check_bare(rows)
    check_between(degree, 0, len(rows) - 2)


def turned_rows(rows):
    """The bare rows with all sizes and turned grids in the opposite sequence."""
    check_bare(rows)
    return Rows(rows.sizes[::-1], tuple([plain_turned(grid) for grid in rows.grids[::-1]]))


def plain_fall(rows, degree, row):
    """As fall, without checks."""
    return plain_read(row, rows.grid(degree - 1))


def fall(rows, degree, row):
    """The fall of a row, () for the degree 0."""
    check_degree_of(rows, degree)
    check_row_of(rows, degree, row)
    return plain_fall(rows, degree, row)


def is_quiet(rows, degree, value):
    """Whether the value is a quiet reading of the degree, with integers of any length."""
    check_degree_of(rows, degree)
    return is_reading(rows.grid(degree - 1), value)


def fallen_answer(rows, degree, row):
    """Whether a row is fallen: the claim that is true of the turned grid, with its paper."""
    check_degree_of(rows, degree)
    check_row_of(rows, degree, row)
    return plain_made_answer(plain_turned(rows.grid(degree)), row)


def reading_group(rows, degree):
    """The rank and the divisors of the group of the quiet rows of a degree, equal if they differ by a fallen one."""
    check_degree_of(rows, degree)
    return plain_group(plain_turned(rows.grid(degree)), plain_turned(rows.grid(degree - 1)))


def pairing(rows, degree):
    """As many still tellings and quiet rows as the rank tells, each row 1 at its telling and 0 at all others."""
    makers = Makers(rows, degree)
    many = len(makers.divisors)
    return makers.makers[many:], tuple([row for _, row in makers.readings[many:]])


def is_quiet_row(rows, degree, value):
    """Whether the value is a quiet row, with integers of any length."""
    return is_reading(rows.grid(degree - 1), (0, value))


def is_pairing(rows, degree, value):
    """Whether the value is a pairing of the degree."""
    check_degree_of(rows, degree)
    if not isinstance(value, tuple) or len(value) != 2 or not all([isinstance(some, tuple) for some in value]):
        return False
    tellings, others = value
    many = plain_group(rows.grid(degree - 1), rows.grid(degree))[0]
    if len(tellings) != many or len(others) != many:
        return False
    if not all([is_still_in(rows, degree, telling) for telling in tellings]):
        return False
    if not all([is_quiet_row(rows, degree, row) for row in others]):
        return False
    values = [[plain_dot(row, telling) for telling in tellings] for row in others]
    return all([values[at][place] == (1 if at == place else 0) for at in range(many) for place in range(many)])


def least_made(grid, goal):
    """Integers (e, row) with the least e above 0 for which the grid leads the row to e times the goal, or None."""
    leads, steps, change = stairs_and_change(turned_rows_of(grid[1], grid[0]), len(grid[1]))
    e, many, rest = 1, [], list(goal)
    for at, step in zip(leads, steps):
        further = step[at] // gcd(rest[at], step[at])
        e, many, rest = e * further, [number * further for number in many], [number * further for number in rest]
        many.append(rest[at] // step[at])
        rest = less_multiple(rest, many[-1], step)
    return None if any(rest) else (e, combined(many, change, grid[0]))


def plain_order(rows, degree, row):
    """The least integer from 1 on that many times a row is fallen, None if there is none."""
    found = least_made(plain_turned(rows.grid(degree)), row)
    return None if found is None else found[0]


def row_order(rows, degree, row):
    """The order of a quiet row, None if no multiple of it is fallen."""
    check_degree_of(rows, degree)
    check_row_of(rows, degree, row)
    check_fit(is_quiet_row(rows, degree, row), "the row is not quiet")
    return plain_order(rows, degree, row)


def has_order(rows, degree, row):
    """Whether a row is quiet and some multiple of it is fallen."""
    return is_quiet_row(rows, degree, row) and plain_order(rows, degree, row) is not None


def link(rows, degree, row, telling):
    """The link of a quiet row with an order and of a still telling one degree higher, in lowest terms."""
    check_degree_below(rows, degree)
    check_row_of(rows, degree, row)
    check_telling_in(rows, degree + 1, telling)
    found = least_made(rows.grid(degree), telling)
    fits = has_order(rows, degree, row) and found is not None
    check_fit(fits, "the row is no quiet one with an order, or no multiple of the telling is made")
    bottom, origin = found
    top = plain_dot(row, origin) % bottom
    divisor = gcd(top, bottom)
    return top // divisor, bottom // divisor


def linked_telling(rows, degree, row):
    """A still telling one degree higher with which the link of a row is not 0, None if the row is fallen.

    What bars the row is a pair (m, x) with the rise of x 0 modulo m, m being above 0 as the row has an order.
    """
    check_degree_below(rows, degree)
    check_row_of(rows, degree, row)
    check_fit(has_order(rows, degree, row), "the row is no quiet one with an order")
    claim, paper = plain_made_answer(plain_turned(rows.grid(degree)), row)
    if claim[0] == "made":
        return None
    m, origin = paper
    return tuple([number // m for number in plain_led(rows.grid(degree), origin)])


def quiet_classes(rows, degree, m):
    """How many rows are quiet modulo m, if those count once that differ by a fallen row and m times a row."""
    check_degree_of(rows, degree)
    check_between(m, 1, MOST_MODULUS)
    rank, found = reading_group(rows, degree)
    if degree > 0:
        found = found + reading_group(rows, degree - 1)[1]
    number = 1
    for divisor in found:
        number *= gcd(m, divisor)
    for _ in range(rank):
        number *= m
    return number
