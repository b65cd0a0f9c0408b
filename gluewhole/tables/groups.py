"""Bare rows, sizes with grids between them, and the group of each degree, told by makers and readings."""

from gluewhole.base.diagonal import made_diagonal, plain_divisors
from gluewhole.base.exact import is_multiple, is_nought_grid, plain_columns, plain_dot, plain_grid, plain_led
from gluewhole.base.exact import plain_product, plain_turned, row_less, stairs_of, undoing
from gluewhole.base.made import makes_all, plain_kernel, plain_kernel_answer, plain_made_answer, told_by, undone_ahead
from gluewhole.base.numbers import check_between, is_between, is_long_row, is_sized
from gluewhole.errors import InvalidRow, InvalidRows, InvalidTelling
from gluewhole.tables.tables import MAX_SIZE, check_table, plain_sizes
from gluewhole.tables.tellings import plain_rise_grid

MOST_SIZES = 5


class Rows:
    """Bare rows. They never change."""

    def __init__(self, sizes, grids):
        if not are_sizes(sizes) or not are_grids(sizes, grids):
            raise InvalidRows("the sizes and grids make no bare rows")
        self._sizes = sizes
        self._grids = grids

    @property
    def sizes(self):
        """The tuple of the sizes."""
        return self._sizes

    @property
    def grids(self):
        """The tuple of the grids between two sizes."""
        return self._grids

    def grid(self, degree):
        """The grid R(d), also for the degree -1 and the greatest one."""
        check_between(degree, -1, len(self._sizes) - 1)
        return bare_grid(self._sizes, self._grids, degree)

    def __eq__(self, other):
        return isinstance(other, Rows) and self._sizes == other._sizes and self._grids == other._grids

    def __len__(self):
        return len(self._sizes)

    def __str__(self):
        return f"rows of {', '.join([str(size) for size in self._sizes])}"


def are_sizes(value):
    """Whether the value is a tuple of one to five sizes."""
    if not isinstance(value, tuple) or not 1 <= len(value) <= MOST_SIZES:
        return False
    return all([is_between(size, 0, MAX_SIZE) for size in value])


def are_grids(sizes, value):
    """Whether the value is a tuple of grids between the sizes, each next one times the one ahead having noughts."""
    if not isinstance(value, tuple) or len(value) != len(sizes) - 1:
        return False
    if not all([is_sized(grid, width, height) for grid, width, height in zip(value, sizes, sizes[1:])]):
        return False
    return all([is_nought_grid(plain_product(behind, ahead)) for ahead, behind in zip(value, value[1:])])


def bare_grid(sizes, grids, degree):
    """The grid R(d) of bare rows with these sizes and grids."""
    if degree == -1:
        return 0, ((),) * sizes[0]
    return grids[degree] if degree < len(grids) else (sizes[degree], ())


def check_bare(value):
    """InvalidRows unless the value is an object of Rows."""
    if not isinstance(value, Rows):
        raise InvalidRows("these are no bare rows")


def check_degree_of(rows, degree):
    """InvalidRows, and InvalidNumber unless the degree is one of the rows."""
    check_bare(rows)
    check_between(degree, 0, len(rows) - 1)


def is_telling_in(rows, degree, value):
    """Whether the value is a telling of the degree, with integers of any length."""
    return is_long_row(value) and len(value) == rows.sizes[degree]


def check_telling_in(rows, degree, value):
    """InvalidTelling unless the value is a telling of the degree, with integers of any length."""
    if not is_telling_in(rows, degree, value):
        raise InvalidTelling("this is no telling of the degree")


def is_still_in(rows, degree, value):
    """Whether the value is a still telling of the degree."""
    return is_telling_in(rows, degree, value) and not any(plain_led(rows.grid(degree), value))


def rows_of(table):
    """The bare rows of a table."""
    check_table(table)
    sizes = plain_sizes(table.space, table.ranks)
    return Rows(sizes, tuple([plain_rise_grid(table, degree) for degree in range(len(sizes) - 1)]))


def is_still_row(rows, degree, value):
    """Whether the value is a still telling of the degree."""
    check_degree_of(rows, degree)
    return is_still_in(rows, degree, value)


def rise_of(rows, degree, telling):
    """The rise of a telling, () for the greatest degree."""
    check_degree_of(rows, degree)
    check_telling_in(rows, degree, telling)
    return plain_led(rows.grid(degree), telling)


def telling_answer(rows, degree, telling):
    """Whether a telling is made: the claim that is true, with what it is the rise of or a reading as its paper."""
    check_degree_of(rows, degree)
    check_telling_in(rows, degree, telling)
    return plain_made_answer(rows.grid(degree - 1), telling)


def alike_answer(rows, degree, one, other):
    """Whether a telling less another one is made, told as by telling_answer."""
    check_degree_of(rows, degree)
    check_telling_in(rows, degree, one)
    check_telling_in(rows, degree, other)
    return plain_made_answer(rows.grid(degree - 1), row_less(one, other))


def above_one(numbers):
    """The divisors other than 1."""
    return tuple([number for number in numbers if number > 1])


def plain_group(low, high):
    """The rank and the divisors of what the second grid leads to noughts, alike if the first one makes the rest.

    A row of which a multiple is made is led to noughts itself: so the divisors are those of the first grid above 1.
    """
    found = plain_divisors(low)
    return high[0] - len(stairs_of(high[1])[0]) - len(found), above_one(found)


def group(rows, degree):
    """The rank and the divisors of the group of a degree."""
    check_degree_of(rows, degree)
    return plain_group(rows.grid(degree - 1), rows.grid(degree))


def plain_group_answer(low, high):
    """The claim that tells the rank and the divisors, with a paper."""
    claim, paper = plain_kernel_answer(high)
    base = claim[2]
    told = told_by(base, low)
    found, left, right = made_diagonal(told)
    diagonal = left, undoing(left), right, undoing(right)
    return ("group", low, high, base[0] - len(found), above_one(found)), (base, paper, told, diagonal)


def group_answer(rows, degree):
    """The claim that tells the rank and the divisors of the group of a degree, with a paper."""
    check_degree_of(rows, degree)
    return plain_group_answer(rows.grid(degree - 1), rows.grid(degree))


def made_makers(low, high):
    """The moduli of the coordinates, 0 for the free ones, and one maker and one row of a reading for each.

    The diagonal grid tells the made ones in the base that U undoes: where its divisors are 1 all are made.
    """
    base = plain_kernel(high)
    found, left, _ = made_diagonal(told_by(base, low))
    makers = plain_columns(plain_product(base, undoing(left)))
    read = plain_product(left, undone_ahead(base))[1]
    moduli = found + (0,) * (base[0] - len(found))
    kept = [at for at, modulus in enumerate(moduli) if modulus != 1]
    rows = [tuple([number % moduli[at] if moduli[at] else number for number in read[at]]) for at in kept]
    return tuple([moduli[at] for at in kept]), tuple([makers[at] for at in kept]), tuple(rows)


class Makers:
    """Makers of a degree of bare rows, with a reading for each. They never change."""

    def __init__(self, rows, degree):
        check_degree_of(rows, degree)
        moduli, makers, readings = made_makers(rows.grid(degree - 1), rows.grid(degree))
        self._rows = rows
        self._degree = degree
        self._divisors = above_one(moduli)
        self._makers = makers
        self._readings = tuple(list(zip(moduli, readings)))

    @property
    def rank(self):
        """How many coordinates are free."""
        return len(self._makers) - len(self._divisors)

    @property
    def divisors(self):
        """The divisors, each dividing the next one."""
        return self._divisors

    @property
    def makers(self):
        """The still tellings, one for each divisor and then one for each of the rank."""
        return self._makers

    @property
    def readings(self):
        """The quiet readings that tell the coordinates, one for each maker."""
        return self._readings

    def coordinates(self, telling):
        """The multiples of the makers of which the sum is alike to a still telling."""
        if not is_still_in(self._rows, self._degree, telling):
            raise InvalidTelling("this is no still telling of the degree")
        return plain_coordinates(self._readings, telling)

    def telling(self, coordinates):
        """The sum of these multiples of the makers."""
        if not is_long_row(coordinates) or len(coordinates) != len(self._makers):
            raise InvalidRow("there is not one integer for each maker")
        columns = plain_turned(plain_grid(self._makers, self._rows.sizes[self._degree]))
        return plain_led(columns, coordinates)

    def __eq__(self, other):
        return isinstance(other, Makers) and self._rows == other._rows and self._degree == other._degree

    def __len__(self):
        return len(self._makers)


def plain_coordinates(readings, telling):
    """What the readings read the telling as."""
    numbers = [(modulus, plain_dot(row, telling)) for modulus, row in readings]
    return tuple([number % modulus if modulus else number for modulus, number in numbers])


def are_makers(rows, degree, value):
    """Whether the value is makers of the degree.

    As many as there are, each a divisor times made, are makers if all coordinates come from sums of them.
    """
    told = Makers(rows, degree)
    if not isinstance(value, tuple) or len(value) != len(told):
        return False
    if not all([is_still_in(rows, degree, telling) for telling in value]):
        return False
    moduli = [modulus for modulus, _ in told.readings]
    found = [told.coordinates(telling) for telling in value]
    for divisor, row in zip(told.divisors, found):
        if not all([is_multiple(divisor * number, modulus) for number, modulus in zip(row, moduli)]):
            return False
    size = len(moduli)
    multiples = [tuple([moduli[at] if at == place else 0 for at in range(size)]) for place in range(size)]
    return makes_all(plain_turned(plain_grid(found + multiples, size)))
