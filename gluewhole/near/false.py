"""False points: wholes that live on few seats, and tellings that differ from a whole at few seats."""

from gluewhole.base.exact import plain_columns, plain_led, plain_turned, stairs_of
from gluewhole.base.made import plain_kernel, plain_made_answer
from gluewhole.base.numbers import check_between, check_fit
from gluewhole.base.quotients import undone_rows
from gluewhole.errors import TooMany
from gluewhole.near.lots import columns_at, differing_seats, ends_of_parts, is_lot_of, lots_number, lots_of, places_of
from gluewhole.near.lots import seats_of
from gluewhole.space.spaces import MOST_CELLS, plain_cells
from gluewhole.tables.tables import check_table, told_ranks
from gluewhole.tables.tellings import check_telling, plain_rise_grid

MOST_LOTS = 2000


def point_sizes(table):
    """The ranks of the points of a table, ascending."""
    ranks = told_ranks(table)
    return tuple([ranks[cell] for cell in plain_cells(table.space, 0)])


def checked_lots(sizes, n):
    """The lots of n seats, or TooMany(2000)."""
    if lots_number(sizes, n) > MOST_LOTS:
        raise TooMany(MOST_LOTS)
    return lots_of(sizes, n)


def seats(table):
    """The ascending tuple of the seats."""
    check_table(table)
    return seats_of(point_sizes(table))


def columns_by_seats(sizes, grid):
    """The list of the columns of the grid at each of the sizes."""
    columns = plain_columns(grid)
    return [columns[begin:end] for begin, end in ends_of_parts(sizes)]


def undone_at(parts, height, lot):
    """A pair (n, G), n above 0, of which G times the columns at a lot is n times the unit, None if there is none."""
    found = undone_rows([column for at in lot for column in parts[at]], height)
    return None if found is None else (found[0], plain_turned(found[1]))


def loose_whole(sizes, grid, lot):
    """A whole other than 0 that lives on a lot with such a whole."""
    places, row = places_of(sizes, lot), [0] * grid[0]
    # Most rows have noughts at a lot, or what others have: they change nothing.
    rows = {line: True for line in columns_at(grid, places)[1] if any(line)}
    base = plain_kernel((len(places), tuple(list(rows))))
    for at, numbers in zip(places, base[1]):
        row[at] = numbers[0]
    return tuple(row)


def held_answer(table, lot):
    """Whether no whole but 0 lives on a lot: the claim that is true, with a paper."""
    check_table(table)
    sizes = point_sizes(table)
    check_fit(is_lot_of(sizes, lot), "this is no lot of the seats of the table")
    grid = plain_rise_grid(table, 0)
    paper = undone_at(columns_by_seats(sizes, grid), len(grid[1]), lot)
    if paper is None:
        return ("loose", sizes, grid, lot), loose_whole(sizes, grid, lot)
    return ("held", sizes, grid, lot), paper


def check_seat_number(k):
    """InvalidNumber unless the value is an integer from 0 to 80."""
    check_between(k, 0, MOST_CELLS)


def confused(sizes, whole, lot, k):
    """A whole on a lot of twice k seats, that of noughts, and a telling that has the first one's first k parts."""
    kept, row = places_of(sizes, lot[:k]), [0] * len(whole)
    for at in kept:
        row[at] = whole[at]
    return whole, (0,) * len(whole), tuple(row)


def safe_answer(table, k):
    """Whether a whole of which k parts at most were turned is told by what comes: the claim that is true."""
    check_table(table)
    check_seat_number(k)
    sizes, grid, papers = point_sizes(table), plain_rise_grid(table, 0), []
    lots, parts = checked_lots(sizes, 2 * k), columns_by_seats(sizes, grid)
    for lot in lots:
        paper = undone_at(parts, len(grid[1]), lot)
        if paper is None:
            return ("confused", sizes, grid, k), confused(sizes, loose_whole(sizes, grid, lot), lot, k)
        papers.append(paper)
    return ("safe", sizes, grid, k), tuple(papers)


def near_answer(table, telling, k):
    """Whether a telling differs from some whole at k seats at most: the claim that is true, with a paper.

    What it has too much at the seats of a lot has the same rise as it has itself, if a whole is left.
    """
    check_table(table)
    check_telling(table, 0, telling)
    check_seat_number(k)
    sizes, grid, bars = point_sizes(table), plain_rise_grid(table, 0), []
    rise = plain_led(grid, telling)
    for lot in checked_lots(sizes, k):
        places = places_of(sizes, lot)
        claim, paper = plain_made_answer(columns_at(grid, places), rise)
        if claim[0] == "made":
            row = list(telling)
            for at, number in zip(places, paper):
                row[at] -= number
            return ("near", sizes, grid, telling, k), tuple(row)
        bars.append(paper)
    return ("far", sizes, grid, telling, k), tuple(bars)


def is_loose(sizes, base, lot):
    """Whether some whole other than 0 lives on a lot: the rows of a base at all other numbers have a lower rank."""
    kept = places_of(sizes, lot)
    rows = [row for at, row in enumerate(base[1]) if at not in kept]
    return len(stairs_of(rows)[0]) < base[0]


def least_lot(table):
    """The first lot of the fewest seats on which some whole other than 0 lives, None if there is none."""
    check_table(table)
    sizes = point_sizes(table)
    base = plain_kernel(plain_rise_grid(table, 0))
    for n in range(1, len(seats_of(sizes)) + 1):
        for lot in checked_lots(sizes, n):
            if is_loose(sizes, base, lot):
                return lot
    return None


def differing(table, one, other):
    """The ascending tuple of the seats at which two tellings of degree 0 differ."""
    check_table(table)
    check_telling(table, 0, one)
    check_telling(table, 0, other)
    return differing_seats(point_sizes(table), one, other)
