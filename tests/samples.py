"""Claims with papers, from each function of the package that returns some, and values that are nearly such."""

import itertools
import random

from gluewhole.base import diagonal, made
from gluewhole.book.book import Book
from gluewhole.keep.pairings import all_pairings, kept, lesser
from gluewhole.near import false, nearest
from gluewhole.rows import halves, long, maps
from gluewhole.space.spaces import space_of
from gluewhole.tables import groups, readings, wholes
from gluewhole.tables.tables import Table, constant, inside, outside
from gluewhole.tables.tellings import sizes
from gluewhole.turn import sides
from tests.helper import (
    EDGE_GRIDS, FILLED, ONE, ROUND, TWIST, TWO, closed, degrees_of, grids, known_rows, moved, random_maps,
    random_tables, scaled, some_row, stills, times, undone_pair, unit)

PLANE = space_of((
    (0, 1, 4), (0, 1, 5), (0, 2, 3), (0, 2, 5), (0, 3, 4), (1, 2, 3), (1, 2, 4), (1, 3, 5), (2, 4, 5), (3, 4, 5)))
PATH = constant(space_of(((0, 1), (1, 2), (2, 3))), 1)
PAIRS = (
    ("undone", "not undone"), ("alike", "unlike"), ("made", "barred"), ("made modulo", "barred modulo"),
    ("same lot", "unlike lots"), ("one to one", "lost"), ("onto", "missed"), ("two sides", "one side"),
    ("held", "loose"), ("safe", "confused"), ("near", "far"))
ALONE = ("divisors", "kernel", "group", "exact", "lesser", "nearest made", "nearest still", "parted")
KINDS = tuple([kind for pair in PAIRS for kind in pair]) + ALONE


def is_short(value, most=10 ** 12):
    """Whether all integers in the value are short enough to pass them."""
    if isinstance(value, tuple):
        return all([is_short(item, most) for item in value])
    return abs(value) < most


def of_grids(some, source):
    """Answers about grids."""
    found = []
    for grid in some:
        width, height = grid[0], len(grid[1])
        rows = [some_row(height, source), (0,) * height, moved(grid, some_row(width, source, 2))]
        found += [diagonal.divisors_answer(grid), made.kernel_answer(grid)]
        found += [diagonal.undone_answer(grid)] if width == height else []
        for row in rows:
            found += [made.made_answer(grid, row), made.made_modulo_answer(grid, row, source.choice((1, 2, 6, 12)))]
            found.append(nearest.nearest_made_answer(grid, tuple([(number, 1) for number in row])))
        found.append(nearest.nearest_still_answer(grid, tuple([(at + 1, at + 2) for at in range(width)])))
        turn, change = undone_pair(height, source)[0], undone_pair(width, source)[0]
        found.append(diagonal.alike_answer(grid, times(times(turn, grid), change)))
        found.append(made.lots_answer(grid, times(turn, grid)))
        other = source.choice(some)
        found.append(diagonal.alike_answer(grid, other))
        found += [made.lots_answer(grid, other)] if other[0] == width else []
    return found


def of_rows(some, source):
    """Answers about bare rows."""
    found = []
    for rows in some:
        for degree in range(len(rows)):
            telling = some_row(rows.sizes[degree], source, 3)
            found += [groups.telling_answer(rows, degree, telling), groups.group_answer(rows, degree)]
            found.append(groups.alike_answer(rows, degree, telling, (0,) * len(telling)))
            found.append(readings.fallen_answer(rows, degree, telling))
            twice = tuple([scaled(unit(size), 2) for size in rows.sizes])
            found += [maps.one_to_one_answer(rows, rows, twice, degree), maps.onto_answer(rows, rows, twice, degree)]
            low, high = rows.grid(degree - 1), rows.grid(degree)
            row = tuple([(number, 1) for number in telling])
            if is_short((low, high)):
                found.append(nearest.parted_answer(low, high, row))
        pairings = all_pairings(rows)
        other = lesser(rows, pairings)
        found.append((("lesser", rows.sizes, rows.grids, other.sizes, other.grids), kept(rows, pairings)))
    return found


def of_tables(some, source):
    """Answers about tables."""
    found = []
    for table in some:
        points = [cell for cell in table.space if len(cell) == 1]
        told = {cell: some_row(table.ranks[cell], source, 2) for cell in points[:1]}
        found += [wholes.extend_answer(table, told), wholes.extend_answer(table, {})]
        seats = false.seats(table)
        found += [false.held_answer(table, seats[:1]), false.held_answer(table, seats)]
        found += [false.safe_answer(table, 0), false.safe_answer(table, 1), false.safe_answer(table, 80)]
        for telling in stills(table, 0, source, 1) + [some_row(sizes(table)[0], source)]:
            found += [false.near_answer(table, telling, 0), false.near_answer(table, telling, 1)]
        found += of_halves(table, source)
    return found


def of_halves(table, source):
    """Answers about two halves of the space of a table, and about the exact row of the cells of one of them."""
    found, space = [], table.space
    cut = source.randint(0, len(space))
    one, other = closed(space[:cut]), closed(space[cut:])
    for degree in degrees_of(table):
        x = halves.part_on(table, one, degree, stills(table, degree, source, 1)[1])
        y = halves.part_on(table, other, degree, stills(table, degree, source, 1)[1])
        found.append(halves.glue_answer(table, one, other, degree, x, y))
        found.append(halves.extend_answer(table, one, degree, x))
        common = halves.common_part(table, one, other)
        part = halves.part_on(table, common, degree, stills(table, degree, source, 1)[1])
        found.append(halves.sides_answer(table, one, other, degree, part))
    first, last = outside(table, one), inside(table, one)
    into = {cell: unit_or_nought(first.ranks[cell], table.ranks[cell]) for cell in space}
    onto = {cell: unit_or_nought(table.ranks[cell], last.ranks[cell]) for cell in space}
    parts = long.splits(long.Short(first, table, last, into, onto))
    found += [(("exact", into[cell], onto[cell]), parts[cell]) for cell in space[:3] + space[-3:]]
    return found


def unit_or_nought(width, height):
    """The grid that leads rows to themselves, or to nothing."""
    return width, tuple([tuple([int(at == place) for at in range(width)]) for place in range(height)])


def of_maps(some):
    """Answers about maps of tables."""
    found = []
    for one, other, lead in some:
        low, high, told = groups.rows_of(one), groups.rows_of(other), maps.rows_map(one, other, lead)
        for degree in degrees_of(one):
            found += [maps.one_to_one_answer(low, high, told, degree), maps.onto_answer(low, high, told, degree)]
    return found


def of_book():
    """Answers of a book."""
    book = Book()
    book.put((0,), 1, {})
    book.put((1,), 1, {})
    book.put((0, 1), 2, {(0,): (1, ((1,), (2,))), (1,): (1, ((0,), (4,)))})
    book.ask("a", 1, (1, 2))
    book.ask("b", 1, (1, 3))
    book.ask("c", 0, (0, 1))
    return [book.answer(name) for name in book.names]


def of_spaces():
    """Answers about sheets."""
    band = closed([(0, 1, 3), (1, 3, 4), (1, 2, 4), (2, 4, 5), (0, 2, 5), (0, 3, 5)])
    return [sides.sides_answer(space) for space in (
        (), ROUND, FILLED, PLANE, band, closed(itertools.combinations(range(4), 3)),
        closed([tuple(sorted([(at + step) % 5 for step in range(3)])) for at in range(5)]))]


def samples():
    """Claims with papers of all kinds, from each function that returns some."""
    source = random.Random(190)
    some = [grid for grid in EDGE_GRIDS if is_short(grid, 100)] + grids(191, 16, 3, 5)
    edge = Table(((0,), (1,), (0, 1)), {(0,): 1, (1,): 1, (0, 1): 1}, {((0,), (0, 1)): TWO, ((1,), (0, 1)): ONE})
    found = of_grids(some, source) + of_rows([rows for rows, _ in known_rows(192, 14, 4)], source)
    found += of_tables([TWIST, PATH, edge, constant((), 1), constant(FILLED, 1)] + random_tables(193, 6, 4)[5:], source)
    return found + of_maps(random_maps(194, 12)) + of_book() + of_spaces()


def places(value, way=()):
    """The ways to all values within a nested tuple."""
    found = [way]
    if isinstance(value, tuple):
        for at, item in enumerate(value):
            found += places(item, way + (at,))
    return found


def value_at(value, way):
    """The value at a way."""
    for at in way:
        value = value[at]
    return value


def put_at(value, way, wanted):
    """The nested tuple with another value at a way."""
    if way == ():
        return wanted
    return value[:way[0]] + (put_at(value[way[0]], way[1:], wanted),) + value[way[0] + 1:]


def bent(value, source, many):
    """Values that are unlike this one at one place: pairs of a word and of the value."""
    found, ways = [], places(value)
    for way in source.sample(ways, min(many, len(ways))):
        old = value_at(value, way)
        if isinstance(old, tuple):
            found.append(("form", put_at(value, way, list(old))))
            found.append(("number", put_at(value, way, old[:-1])))
            found.append(("number", put_at(value, way, old + old[-1:])))
            found.append(("form", put_at(value, way, None)))
        elif isinstance(old, int):
            found += [("number", put_at(value, way, old + step)) for step in (1, -1)]
            found += [("number", put_at(value, way, -old)), ("form", put_at(value, way, str(old)))]
            found.append(("form", put_at(value, way, True if old == 1 else False if old == 0 else (old,))))
    return found
