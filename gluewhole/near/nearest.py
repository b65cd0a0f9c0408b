"""Nearest rows over the fractions, and talks in which cells are mended one by one."""

from gluewhole.base.exact import is_nought_grid, plain_led, plain_product, plain_turned
from gluewhole.base.numbers import check_fit, check_grid, check_grids
from gluewhole.base.quotients import check_fraction_row, fraction_less, is_fraction_row, nearest_origin
from gluewhole.base.quotients import square_of, whole_fractions, with_bottom
from gluewhole.errors import InvalidOperation, InvalidRow, TooMany
from gluewhole.tables.tellings import check_cell_at, check_degree, check_telling, plain_rise_grid, plain_spots

MOST_DEEDS = 40


def square(row):
    """The sum of the squares of the numbers of a fraction row."""
    check_fraction_row(row)
    return square_of(row)


def distance(one, other):
    """The square of the difference of two fraction rows."""
    check_fraction_row(one)
    check_fraction_row(other)
    check_fit(len(one) == len(other), "the rows have unlike lengths")
    return square_of(fraction_less(one, other))


def check_fractions(row, length):
    """InvalidRow unless the value is a fraction row of so many numbers."""
    if not is_fraction_row(row) or len(row) != length:
        raise InvalidRow("this is no fraction row of the length that is asked for")


def nearest_made_answer(grid, row):
    """The claim that tells the made row nearest to a fraction row, with what the grid leads to it."""
    check_grid(grid)
    check_fractions(row, len(grid[1]))
    origin, made = nearest_origin(grid, row)
    return ("nearest made", grid, row, made), origin


def nearest_still(grid, row):
    """The still row nearest to a fraction row, and a row that reads the grid to what it lacks."""
    reader, turned = nearest_origin(plain_turned(grid), row)
    return fraction_less(row, turned), reader


def nearest_still_answer(grid, row):
    """The claim that tells the still row nearest to a fraction row, with what reads the grid to the difference."""
    check_grid(grid)
    check_fractions(row, grid[0])
    still, reader = nearest_still(grid, row)
    return ("nearest still", grid, row, still), reader


def parted_answer(one, other, row):
    """The claim that tells the three parts of a fraction row, with what both grids make the first and the last of."""
    check_grids(one, other)
    check_fractions(row, other[0])
    fits = other[0] == len(one[1]) and is_nought_grid(plain_product(other, one))
    check_fit(fits, "the second grid times the first one is not 0")
    origin, made = nearest_origin(one, row)
    reader, turned = nearest_origin(plain_turned(other), row)
    rest = fraction_less(fraction_less(row, made), turned)
    return ("parted", one, other, row, made, rest, turned), (origin, reader)


def cell_rise(table, degree, cell):
    """The grid of the rises of a degree at one cell of the next degree."""
    grid = plain_rise_grid(table, degree)
    begin, end = plain_spots(table, degree + 1)[cell]
    return grid[0], grid[1][begin:end]


class Talk:
    """A telling whose cells are mended one by one. It changes."""

    def __init__(self, table, degree, telling):
        check_degree(table, degree)
        check_telling(table, degree, telling)
        self._table = table
        self._degree = degree
        self._telling = telling
        self._deeds = []
        self._rows = [whole_fractions(telling)]

    @property
    def stands(self):
        """The fraction row that stands."""
        return self._rows[-1]

    @property
    def deeds(self):
        """The tuple of the cells that were mended."""
        return tuple(self._deeds)

    def nearest(self):
        """The still telling that is nearest, a fraction row: no deed changes it."""
        return nearest_still(plain_rise_grid(self._table, self._degree), self._rows[0])[0]

    def mend(self, cell):
        """Mends a cell, and returns the distance of what stood and of what comes."""
        check_cell_at(self._table, self._degree + 1, cell)
        if len(self._deeds) >= MOST_DEEDS:
            raise TooMany(MOST_DEEDS)
        stood = self._rows[-1]
        comes = nearest_still(cell_rise(self._table, self._degree, cell), stood)[0]
        self._deeds.append(cell)
        self._rows.append(comes)
        return square_of(fraction_less(stood, comes))

    def undo(self):
        """Takes the last deed back."""
        if not self._deeds:
            raise InvalidOperation("there is no deed to take back")
        self._deeds.pop()
        self._rows.pop()

    def is_still(self):
        """Whether the rise of what stands is 0."""
        grid = plain_rise_grid(self._table, self._degree)
        return not any(plain_led(grid, with_bottom(self._rows[-1])[1]))

    def broken(self):
        """The tuple of the cells at which the rise of what stands is not 0, as they stand in the space."""
        rise = plain_led(plain_rise_grid(self._table, self._degree), with_bottom(self._rows[-1])[1])
        spots = plain_spots(self._table, self._degree + 1)
        return tuple([cell for cell, (begin, end) in spots.items() if any(rise[begin:end])])

    def __eq__(self, other):
        return (isinstance(other, Talk) and self._table == other._table and self._degree == other._degree
                and self._telling == other._telling and self._deeds == other._deeds)

    def __len__(self):
        return len(self._deeds)

    def __str__(self):
        return f"{len(self._deeds)} deeds"
