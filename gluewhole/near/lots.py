"""Seats and lots of them: what the false points and the checker count and go through."""

from itertools import combinations
from math import comb

from gluewhole.base.exact import plain_grid
from gluewhole.base.numbers import is_long_integer


def seats_of(sizes):
    """The ascending tuple of the indices of the sizes above 0."""
    return tuple([at for at, size in enumerate(sizes) if size > 0])


def is_lot_of(sizes, value):
    """Whether the value is an ascending tuple of seats."""
    if not isinstance(value, tuple) or not all([is_long_integer(at) for at in value]):
        return False
    found = seats_of(sizes)
    return all([at in found for at in value]) and all([ahead < behind for ahead, behind in zip(value, value[1:])])


def lots_number(sizes, n):
    """How many lots of n seats there are."""
    many = len(seats_of(sizes))
    return comb(many, min(n, many))


def some_lots(seats, many):
    """All ascending tuples of so many of the seats, ascending."""
    return list(combinations(seats, many))


def lots_of(sizes, n):
    """The lots of n seats, or the one with all if there are fewer."""
    seats = seats_of(sizes)
    return some_lots(seats, min(n, len(seats)))


def ends_of_parts(sizes):
    """The pairs (begin, end) of the indices of the parts of a telling."""
    found, begin = [], 0
    for size in sizes:
        found.append((begin, begin + size))
        begin += size
    return found


def places_of(sizes, lot):
    """The indices of the numbers at the seats of a lot."""
    ends = ends_of_parts(sizes)
    return [place for at in lot for place in range(ends[at][0], ends[at][1])]


def columns_at(grid, places):
    """The grid with some of the columns."""
    return plain_grid([[row[at] for at in places] for row in grid[1]], len(places))


def differing_seats(sizes, one, other):
    """The ascending tuple of the seats at which two tellings differ."""
    parts = [(at, begin, end) for at, (begin, end) in enumerate(ends_of_parts(sizes))]
    return tuple([at for at, begin, end in parts if one[begin:end] != other[begin:end]])
