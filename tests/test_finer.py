"""Finer spaces and tables [15.1] to [15.8]."""

import itertools
import random
import unittest

from gluewhole.errors import InvalidCell, InvalidNumber, InvalidSpace, InvalidTable, InvalidTelling, TooMany
from gluewhole.keep.finer import (
    finer_space, finer_table, ladder, last_lead, led_back, led_there, telling_step)
from gluewhole.rows.maps import led_group
from gluewhole.space.maps import is_map
from gluewhole.space.spaces import degree_of, is_space, space_of
from gluewhole.tables.groups import Makers, group, rows_of, telling_answer
from gluewhole.tables.tables import Table, constant, table_fault, table_product
from gluewhole.tables.tellings import is_still, rise, sizes
from tests.helper import (
    EDGE, FILLED, ROUND, TWIST, WRONG, WRONG_CELLS, WRONG_INTEGERS, WRONG_ROWS, check_wrong, closed, degrees_of,
    fastest, is_zero, moved, random_tables, refusal, some_row, spaces, stills, transposed, turned_table, unit, weighted)

PAIR = space_of(((4, 5),))
TWICE = Table(PAIR, {(4,): 1, (5,): 1, (4, 5): 1}, {
    ((4,), (4, 5)): (1, ((2,),)), ((5,), (4, 5)): (1, ((3,),))})
SOLID = closed([(0, 1, 2, 3)])
LONG = 10 ** 30


def ring(size, points=0):
    """A ring of stretches, and further points."""
    return closed([(at, (at + 1) % size) if at + 1 < size else (0, at) for at in range(size)]
                  + [(size + at,) for at in range(points)])


def told_ladders(space):
    """All rows of one to four cells, each one a part of the next one and unlike it, by the words of [15.1]."""
    found = []
    for size in range(1, 5):
        for rungs in itertools.product(space, repeat=size) if len(space) < 9 else chains(space, size):
            if all([set(low) < set(high) for low, high in zip(rungs, rungs[1:])]):
                found.append(rungs)
    return found


def chains(space, size):
    """The ladders of a size, rung by rung."""
    if size == 1:
        return [(cell,) for cell in space]
    return [rungs + (cell,) for rungs in chains(space, size - 1) for cell in space if set(rungs[-1]) < set(cell)]


def sign_of(row):
    """The sign of a row of unlike points."""
    return (-1) ** sum([one > other for one, other in itertools.combinations(row, 2)])


def full_ladders(cell):
    """The full ladders with this last rung, with their signs."""
    return [
        (sign_of(row), tuple([tuple(sorted(row[:at])) for at in range(1, len(row) + 1)]))
        for row in itertools.permutations(cell)]


def rungs_of(space, cell):
    """The cells with these places."""
    return tuple([space[place] for place in cell])


def split(table, degree, row):
    """The numbers of a telling, cell by cell."""
    found, begin = {}, 0
    for cell in table.space:
        if len(cell) == degree + 1:
            found[cell] = row[begin:begin + table.ranks[cell]]
            begin += table.ranks[cell]
    return found


def small_tables():
    """Tables whose finer tables have at most 80 cells and sizes up to 30."""
    source, found = random.Random(150), [
        TWICE, TWIST, constant(ROUND, 1), constant(FILLED, 1), constant((), 1), constant(EDGE, 2), constant(PAIR, 0)]
    found.append(turned_table(constant(closed([(0, 1), (1, 2)]), 2), source))
    for table in random_tables(151, 60, 5):
        try:
            finer_table(table)
        except OverflowError:
            continue
        found.append(table)
    for at in range(6):
        space = closed([tuple(sorted(source.sample(range(5), 2))) for _ in range(3)])
        found.append(weighted(space, source, (1, 2, 3, 4)))
    return found


TABLES = small_tables()


def plus(one, other):
    """The sum of two rows."""
    assert len(one) == len(other)
    return tuple([a + b for a, b in zip(one, other)])


def less(one, other):
    """The first row less the second one."""
    assert len(one) == len(other)
    return tuple([a - b for a, b in zip(one, other)])


def rise_in(table, degree, row):
    """The rise, () behind the greatest degree."""
    return rise(table, degree, row) if degree in degrees_of(table) else ()


def there(table, degree, row):
    """What a telling leads there to, () behind the greatest degree."""
    return led_there(table, degree, row) if degree in degrees_of(table) else ()


def back(table, degree, row):
    """What a telling leads back to, () behind the greatest degree."""
    return led_back(table, degree, row) if degree in degrees_of(table) else ()


class Examples(unittest.TestCase):
    def test_spaces(self):
        self.assertEqual(
            repr([finer_space(PAIR), ladder(PAIR, (1, 2)), last_lead(PAIR), finer_space(ROUND)[6:9]]),
            "[((0,), (1,), (2,), (0, 2), (1, 2)), ((5,), (4, 5)), {0: 4, 1: 5, 2: 5}, ((0, 3), (0, 4), (1, 3))]")

    def test_tellings(self):
        self.assertEqual(
            [led_there(TWICE, 0, (10, 20)), led_there(TWICE, 1, (7,)), led_back(TWICE, 1, (5, 8)),
             telling_step(TWICE, 1, (5, 8))],
            [(10, 20, 60), (7, 0), (-3,), (0, 0, 8)])

    def test_tables(self):
        finer = finer_table(TWICE)
        self.assertEqual(
            [str(finer), finer.maps[((1,), (1, 2))], finer.maps[((2,), (1, 2))]],
            ["table on 5 cells, sizes 3 2", (1, ((3,),)), (1, ((1,),))])

    def test_one_that_raises(self):
        refusal(self, ladder, (PAIR, (0, 1)), InvalidCell)


class Spaces(unittest.TestCase):
    def test_ladders(self):
        found = 0
        for space in spaces(152, 60, 5) + [ROUND, FILLED, PAIR]:
            told = told_ladders(space)
            cells = sorted([tuple([space.index(cell) for cell in rungs]) for rungs in told],
                           key=lambda cell: (len(cell), cell))
            ordered = sorted(told, key=lambda rungs: (len(rungs), [space.index(rung) for rung in rungs]))
            for rungs, cell in zip(ordered, cells):
                self.assertEqual(ladder(space, cell), rungs)
            if len(cells) > 80:
                self.assertEqual(refusal(self, finer_space, (space,), TooMany).most, 80)
                self.assertEqual(refusal(self, last_lead, (space,), TooMany).most, 80)
                continue
            found += 1
            finer = finer_space(space)
            self.assertEqual(finer, tuple(cells))
            self.assertTrue(is_space(finer))
            self.assertEqual(degree_of(finer), degree_of(space))
            lead = last_lead(space)
            self.assertEqual(list(lead.items()), [(at, max(cell)) for at, cell in enumerate(space)])
            self.assertIs(is_map(finer, space, lead), True)
        self.assertGreater(found, 25)
        self.assertEqual([finer_space(()), last_lead(())], [(), {}])

    def test_sizes(self):
        # 20 points and 20 stretches in a ring have 20 + 3 * 20 cells; one further point makes one more.
        self.assertEqual(len(finer_space(ring(20))), 80)
        self.assertEqual(len(last_lead(ring(20))), 40)
        for function in (finer_space, last_lead):
            self.assertEqual(refusal(self, function, (ring(20, 1),), TooMany).most, 80)
            self.assertEqual(refusal(self, function, (SOLID,), TooMany).most, 80)
        points = tuple([(at,) for at in range(80)])
        self.assertEqual(finer_space(points), points)
        self.assertEqual(len(finer_space(FILLED)), 25)

    def test_ladders_of_great_spaces(self):
        self.assertEqual(ladder(SOLID, (0, 4, 10, 14)), ((0,), (0, 1), (0, 1, 2), (0, 1, 2, 3)))
        self.assertEqual(ladder(SOLID, (14,)), ((0, 1, 2, 3),))
        for cell in ((0, 1), (4, 5), (0, 4, 5), (0, 9), (15,), (0, 15), (0, 4, 14, 10), (10, 14, 99)):
            refusal(self, ladder, (SOLID, cell), InvalidCell)
        big = closed([(0, 1, 2, 3), (4, 5, 6, 7), (8, 9, 10, 11), (12, 13, 14, 15), (16, 17, 18, 19)])
        self.assertEqual(ladder(big, (len(big) - 1,)), ((16, 17, 18, 19),))
        refusal(self, ladder, (big, (len(big),)), InvalidCell)

    def test_wrong_ones(self):
        for function in (finer_space, last_lead):
            check_wrong(self, function, (PAIR,), ("space",))
        WRONG["finer cell"] = (InvalidCell, WRONG_CELLS + ((0, 1), (3,), (0, 1, 2), (2, 0), (99,)))
        check_wrong(self, ladder, (PAIR, (1, 2)), ("space", "finer cell"))
        refusal(self, ladder, ((), (0,)), InvalidCell)
        refusal(self, finer_space, (TWICE,), InvalidSpace)


class Tables(unittest.TestCase):
    def test_finer_tables(self):
        for table in TABLES:
            finer, space = finer_table(table), table.space
            self.assertEqual(finer.space, finer_space(space))
            self.assertIsNone(table_fault(finer.space, finer.ranks, finer.maps))
            for cell, rank in finer.ranks.items():
                self.assertEqual(rank, table.ranks[space[cell[-1]]])
            for (face, cell), grid in finer.maps.items():
                if face[-1] == cell[-1]:
                    self.assertEqual(grid, unit(finer.ranks[cell]))
                else:
                    self.assertEqual(grid, table.led_by(space[cell[-2]], space[cell[-1]]))

    def test_sizes(self):
        # 10 stretches: 20 ladders of two rungs, 20 places; rank 2 at the stretches makes 40.
        table = constant(ring(10), 1)
        self.assertEqual(sizes(finer_table(table)), (20, 20))
        self.assertEqual(refusal(self, finer_table, (constant(ring(10), 2),), TooMany).most, 30)
        self.assertEqual(sizes(finer_table(constant(ring(15), 1))), (30, 30))
        self.assertEqual(sizes(finer_table(constant(ring(15, 1), 0))), (0, 0))
        self.assertEqual(refusal(self, finer_table, (constant(ring(16), 1),), TooMany).most, 30)
        # More than 80 cells come first.
        self.assertEqual(refusal(self, finer_table, (constant(ring(21), 1),), TooMany).most, 80)
        self.assertEqual(refusal(self, finer_table, (constant(SOLID, 1),), TooMany).most, 80)
        self.assertEqual(sizes(finer_table(constant(ring(20), 0))), (0, 0))
        check_wrong(self, finer_table, (TWICE,), ("table",))

    def test_long_integers(self):
        big = Table(EDGE, {cell: 1 for cell in EDGE}, {
            ((0,), (0, 1)): (1, ((10 ** 12 - 1,),)), ((1,), (0, 1)): (1, ((7,),))})
        table = table_product(big, table_product(big, big))
        self.assertEqual(finer_table(table).maps[((0,), (0, 2))], (1, (((10 ** 12 - 1) ** 3,),)))
        self.assertEqual(led_there(table, 0, (5, 1)), (5, 1, 343))
        self.assertEqual(led_there(big, 0, (1, 10 ** 12 - 1)), (1, 10 ** 12 - 1, 7 * (10 ** 12 - 1)))


class Tellings(unittest.TestCase):
    def test_there(self):
        source = random.Random(1)
        for table in TABLES:
            finer, space = finer_table(table), table.space
            for degree in degrees_of(table):
                row = some_row(sizes(table)[degree], source)
                told, found = split(table, degree, row), split(finer, degree, led_there(table, degree, row))
                for cell, numbers in found.items():
                    rungs = rungs_of(space, cell)
                    ends = tuple([max(rung) for rung in rungs])
                    if len(set(ends)) < len(ends):
                        self.assertFalse(any(numbers))
                    else:
                        self.assertEqual(numbers, moved(table.led_by(ends, rungs[-1]), told[ends]))

    def test_back(self):
        source = random.Random(2)
        for table in TABLES:
            finer, space = finer_table(table), table.space
            for degree in degrees_of(table):
                row = some_row(sizes(finer)[degree], source)
                found, told = split(table, degree, led_back(table, degree, row)), split(finer, degree, row)
                for cell, numbers in found.items():
                    wanted = (0,) * table.ranks[cell]
                    for sign, rungs in full_ladders(cell):
                        more = told[tuple([space.index(rung) for rung in rungs])]
                        wanted = plus(wanted, tuple([sign * number for number in more]))
                    self.assertEqual(numbers, wanted)

    def test_they_go_with_rises(self):
        source = random.Random(3)
        for table in TABLES:
            finer = finer_table(table)
            for degree in degrees_of(table):
                x, y = some_row(sizes(table)[degree], source), some_row(sizes(finer)[degree], source)
                self.assertEqual(
                    rise_in(finer, degree, led_there(table, degree, x)),
                    there(table, degree + 1, rise_in(table, degree, x)))
                self.assertEqual(
                    rise_in(table, degree, led_back(table, degree, y)),
                    back(table, degree + 1, rise_in(finer, degree, y)))
                self.assertEqual(led_back(table, degree, led_there(table, degree, x)), x)

    def test_steps(self):
        source, unlike = random.Random(4), 0
        for table in TABLES:
            finer = finer_table(table)
            for degree in degrees_of(table):
                y = some_row(sizes(finer)[degree], source)
                step = telling_step(table, degree, y)
                self.assertEqual(len(step), sizes(finer)[degree - 1] if degree else 0)
                above = rise_in(finer, degree, y)
                more = telling_step(table, degree + 1, above) if degree + 1 in degrees_of(table) else (0,) * len(y)
                told = more if degree == 0 else plus(rise(finer, degree - 1, step), more)
                image = led_there(table, degree, led_back(table, degree, y))
                self.assertEqual(less(y, image), told)
                unlike += y != image
        self.assertGreater(unlike, 40)

    def test_kept(self):
        source, divisors = random.Random(5), 0
        for table in TABLES:
            finer = finer_table(table)
            low, high = rows_of(table), rows_of(finer)
            for degree in degrees_of(table):
                self.assertEqual(group(low, degree), group(high, degree))
                divisors += len(group(low, degree)[1])
                for x in stills(table, degree, source, 2):
                    image = led_there(table, degree, x)
                    self.assertTrue(is_still(finer, degree, image))
                    self.assertEqual(
                        telling_answer(low, degree, x)[0][0], telling_answer(high, degree, image)[0][0])
                for y in stills(finer, degree, source, 2):
                    image = led_back(table, degree, y)
                    self.assertTrue(is_still(table, degree, image))
                    self.assertEqual(
                        telling_answer(high, degree, y)[0][0], telling_answer(low, degree, image)[0][0])
                    again = led_there(table, degree, image)
                    if degree:
                        self.assertEqual(less(y, again), rise(finer, degree - 1, telling_step(table, degree, y)))
                    else:
                        self.assertEqual(y, again)
        self.assertGreater(divisors, 8)

    def test_coordinates(self):
        for table in TABLES:
            finer = finer_table(table)
            low, high = rows_of(table), rows_of(finer)
            ahead = tuple([columns(lambda row: led_there(table, d, row), low.sizes[d], high.sizes[d])
                           for d in degrees_of(table)])
            behind = tuple([columns(lambda row: led_back(table, d, row), high.sizes[d], low.sizes[d])
                            for d in degrees_of(table)])
            for degree in degrees_of(table):
                there_grid, back_grid = led_group(low, high, ahead, degree), led_group(high, low, behind, degree)
                for rows, one, other in ((low, there_grid, back_grid), (high, back_grid, there_grid)):
                    moduli = [m for m, _ in Makers(rows, degree).readings]
                    for at in range(len(moduli)):
                        row = tuple([int(at == place) for place in range(len(moduli))])
                        round_trip = moved(other, moved(one, row))
                        self.assertTrue(all([is_zero(a - b, m) for a, b, m in zip(row, round_trip, moduli)]))

    def test_edges(self):
        empty = constant((), 1)
        self.assertEqual([led_there(empty, 0, ()), led_back(empty, 0, ()), telling_step(empty, 0, ())], [(), (), ()])
        self.assertEqual(telling_step(TWICE, 0, (1, 2, 3)), ())
        points = constant(((0,), (7,)), 2)
        self.assertEqual(finer_table(points).space, ((0,), (1,)))
        self.assertEqual([led_there(points, 0, (1, 2, 3, 4)), led_back(points, 0, (1, 2, 3, 4))], [(1, 2, 3, 4)] * 2)
        # [15.8]: there of back of a telling need not be this telling.
        self.assertEqual(led_there(TWICE, 0, led_back(TWICE, 0, (0, 0, 1))), (0, 0, 0))

    def test_wrong_ones(self):
        WRONG["table telling"] = (InvalidTelling, WRONG_ROWS + ((), (1, 2), (10 ** 12,), [7]))
        WRONG["finer telling"] = (InvalidTelling, WRONG_ROWS + ((), (1,), (1, 2, 3), (10 ** 12, 0)))
        check_wrong(self, led_there, (TWICE, 1, (7,)), ("table", "degree 1", "table telling"))
        for function in (led_back, telling_step):
            check_wrong(self, function, (TWICE, 1, (5, 8)), ("table", "degree 1", "finer telling"))
        for function in (led_there, led_back, telling_step):
            refusal(self, function, (PAIR, None, None), InvalidTable)
            self.assertEqual(refusal(self, function, (constant(SOLID, 1), None, None), TooMany).most, 80)
            self.assertEqual(refusal(self, function, (constant(ring(10), 2), None, None), TooMany).most, 30)
            for wrong in WRONG_INTEGERS:
                self.assertIs(refusal(self, function, (TWICE, wrong, None), InvalidNumber).given, wrong)
            self.assertEqual(refusal(self, function, (constant((), 1), 1, ()), InvalidNumber).given, 1)


class Times(unittest.TestCase):
    # The two inputs of which it was told that they took longest.
    NET = closed([(3, 4, 60), (3, 36, 60)])
    NUMBERS = {
        ((3,), (3, 4)): 1, ((3,), (3, 36)): 6, ((3,), (3, 60)): 1, ((3, 4), (3, 4, 60)): 3, ((3, 36), (3, 36, 60)): 1,
        ((3, 60), (3, 4, 60)): 3, ((3, 60), (3, 36, 60)): 6, ((4,), (3, 4)): -1, ((4,), (4, 60)): 3,
        ((4, 60), (3, 4, 60)): -1, ((36,), (3, 36)): -3, ((36,), (36, 60)): 1, ((36, 60), (3, 36, 60)): -3,
        ((60,), (3, 60)): -1, ((60,), (4, 60)): 3, ((60,), (36, 60)): 2}
    ONE_CELL = {
        ((0,), (0, 4)): 3, ((0,), (0, 8)): 1, ((0, 4), (0, 4, 8)): 1, ((0, 8), (0, 4, 8)): 3, ((4,), (0, 4)): -6,
        ((4,), (4, 8)): 2, ((4, 8), (0, 4, 8)): -3, ((8,), (0, 8)): -1, ((8,), (4, 8)): 1}

    def told_table(self, space, numbers):
        """The table of rank 1 with these numbers as its maps."""
        return Table(space, {cell: 1 for cell in space}, {pair: (1, ((number,),)) for pair, number in numbers.items()})

    def test_one_telling_takes_less_than_the_table(self):
        net, cell = self.told_table(self.NET, self.NUMBERS), self.told_table(closed([(0, 4, 8)]), self.ONE_CELL)
        row = (2, 0, -1, 2, -2, 1, -2, 3, 1, -3, 3, 2)
        # Just the ladder (3,), (3, 4), (3, 4, 60), the first one, has the last points 3, 4, 60.
        self.assertEqual(led_there(net, 2, (-1, 0)), (-1,) + (0,) * 11)
        told = {rungs: number for rungs, number in zip([c for c in finer_space(cell.space) if len(c) == 2], row)}
        self.assertEqual(
            led_back(cell, 1, row),
            (told[(0, 3)] - told[(1, 3)], told[(0, 4)] - told[(2, 4)], told[(1, 5)] - told[(2, 5)]))
        for table, function, arguments in (
                (net, led_there, (2, (-1, 0))), (cell, led_back, (1, row)), (cell, telling_step, (1, row))):
            self.assertLess(fastest(function, table, *arguments), fastest(finer_table, table))


def columns(function, width, height):
    """The grid of what a function leads the unit rows to."""
    rows = [function(tuple([int(at == place) for place in range(width)])) for at in range(width)]
    return transposed((height, tuple(rows)))


if __name__ == "__main__":
    unittest.main()
