"""Tellings and rises [7.1] and [7.2]."""

import itertools
import random
import unittest

from gluewhole.errors import InvalidCell, InvalidNumber, InvalidOperation, InvalidRow, InvalidTable, InvalidTelling
from gluewhole.space.spaces import border, cells_of, degree_of, faces
from gluewhole.tables.tables import Table, constant, framed, on_star, outside, table_sum
from gluewhole.tables.tellings import (
    carrier, is_still, is_telling, on_cells, part, rise, rise_grid, sizes, spots, spread)
from tests.helper import (
    EDGE, FILLED, LESS, ODD, ONE, ROUND, TWIST, TWO, WRONG_CELLS, WRONG_ROWS, WRONG_TABLES, are_numbers,
    check_judged, check_wrong, closed, moved, refusal, times, unit)

PLAIN = constant(ROUND, 1)
SOLID = closed([(0, 1, 2, 3)])
POINTS = tuple([(point,) for point in range(80)])
LONG = 10 ** 30
MIXED = Table(
    EDGE, {(0,): 2, (1,): 0, (0, 1): 3},
    {((0,), (0, 1)): (2, ((1, 2), (3, 4), (5, 6))), ((1,), (0, 1)): (0, ((), (), ()))})
TURNED = framed(constant(FILLED, 2), {
    cell: (2, ((1, number), (0, 1))) if number % 2 else (2, ((0, 1), (-1, number)))
    for number, cell in enumerate(FILLED)})
TABLES = (
    PLAIN, TWIST, MIXED, TURNED, constant((), 2), constant(SOLID, 2), constant(POINTS[:30], 1), constant(FILLED, 4),
    on_star(SOLID, (1, 2), 3), outside(TURNED, ((0,), (1,), (0, 1))), table_sum(TWIST, PLAIN), constant(ROUND, 0))


def degrees(table):
    """The degrees of a table."""
    return range(max(degree_of(table.space), 0) + 1)


def told_size(table, degree):
    """The size of a degree."""
    return sum([table.ranks[cell] for cell in table.space if len(cell) == degree + 1])


def split(table, degree, telling):
    """The numbers of a telling, cell by cell."""
    found, begin = {}, 0
    for cell in cells_of(table.space, degree):
        found[cell] = telling[begin:begin + table.ranks[cell]]
        begin += table.ranks[cell]
    return found


def told_rise(table, degree, telling):
    """The rise, cell by cell."""
    below, found = split(table, degree, telling), []
    for cell in table.space:
        if len(cell) == degree + 2:
            row = [0] * table.ranks[cell]
            for sign, face in faces(cell):
                row = [a + sign * b for a, b in zip(row, moved(table.maps[(face, cell)], below[face]))]
            found += row
    return tuple(found)


def some_tellings(table, degree, seed, many=4, most=9):
    """A few random tellings."""
    source = random.Random(seed)
    return [tuple([source.randint(-most, most) for _ in range(told_size(table, degree))]) for _ in range(many)]


class Examples(unittest.TestCase):
    def test_rises(self):
        self.assertEqual(
            repr([sizes(PLAIN), spots(PLAIN, 1), rise_grid(PLAIN, 0), rise(PLAIN, 0, (5, 7, 9)), rise_grid(PLAIN, 1),
                  sizes(constant((), 2))]),
            "[(3, 3), {(0, 1): (0, 1), (0, 2): (1, 2), (1, 2): (2, 3)}, (3, ((-1, 1, 0), (-1, 0, 1), (0, -1, 1))), "
            "(2, 4, 2), (3, ()), (0,)]")

    def test_judging(self):
        self.assertEqual(
            [is_still(PLAIN, 0, (4, 4, 4)), is_still(PLAIN, 0, (4, 4, 5)), is_still(PLAIN, 1, (1, 0, 0)),
             is_telling(PLAIN, 1, (1, 0)), is_telling(PLAIN, 1, [1, 0, 0])],
            [True, False, True, False, False])

    def test_parts(self):
        self.assertEqual(
            [part(PLAIN, 1, (2, 4, 6), (0, 2)), on_cells(PLAIN, 1, {(1, 2): (9,)}), carrier(PLAIN, 1, (2, 0, 6)),
             spread(PLAIN, 0, (2,), (5,), (1, 2))],
            [(4,), (0, 0, 9), ((0, 1), (1, 2)), (5,)])

    def test_one_that_raises(self):
        refusal(self, part, (PLAIN, 1, (2, 4, 6), (0,)), InvalidCell)


class Sizes(unittest.TestCase):
    def test_sizes(self):
        for table in TABLES:
            self.assertEqual(sizes(table), tuple([told_size(table, degree) for degree in degrees(table)]))
        self.assertEqual([sizes(MIXED), sizes(constant(POINTS[:30], 1)), sizes(constant((), 0))], [(2, 3), (30,), (0,)])
        check_wrong(self, sizes, (PLAIN,), ("table",))

    def test_spots(self):
        for table in TABLES:
            for degree in degrees(table):
                found, begin = [], 0
                for cell in cells_of(table.space, degree):
                    found.append((cell, (begin, begin + table.ranks[cell])))
                    begin += table.ranks[cell]
                self.assertEqual(list(spots(table, degree).items()), found)
        self.assertEqual(spots(constant((), 2), 0), {})
        self.assertEqual(spots(MIXED, 0), {(0,): (0, 2), (1,): (2, 2)})
        self.assertEqual(list(spots(constant(closed([(0, 9), (5,)]), 1), 0)), [(0,), (5,), (9,)])

    def test_degrees(self):
        for function in (spots, rise_grid):
            check_wrong(self, function, (PLAIN, 1), ("table", "degree"))
        for table, most in ((PLAIN, 1), (constant((), 1), 0), (constant(POINTS[:3], 1), 0), (constant(SOLID, 1), 3)):
            for function in (spots, rise_grid):
                function(table, most)
                self.assertEqual(refusal(self, function, (table, most + 1), InvalidNumber).given, most + 1)
            for function in (is_telling, is_still):
                function(table, most, None)
                self.assertEqual(refusal(self, function, (table, most + 1, None), InvalidNumber).given, most + 1)


class Judges(unittest.TestCase):
    def test_tellings(self):
        for table in TABLES:
            for degree in degrees(table):
                size = told_size(table, degree)
                right = tuple(some_tellings(table, degree, size)) + ((LONG,) * size, (-LONG,) * size)
                wrong = ((0,) * (size + 1), [0] * size, (True,) * size, (None,) * size) if size else ((0,),)
                odd = [value for value in ODD if not are_numbers(value, size)]
                check_judged(self, is_telling, (table, degree), right, wrong, odd)

    def test_still_ones(self):
        for table in TABLES:
            for degree in degrees(table):
                for telling in some_tellings(table, degree, degree, 10, 1):
                    self.assertIs(is_still(table, degree, telling), not any(told_rise(table, degree, telling)))
                for telling in some_tellings(table, degree - 1, degree) if degree else ():
                    self.assertIs(is_still(table, degree, told_rise(table, degree - 1, telling)), True)
        right = ((4, 4, 4), (0, 0, 0), (LONG,) * 3, (1, 1, 1))
        wrong = ((4, 4, 5), (LONG, LONG, LONG + 1), (True,) * 3, (False,) * 3, (4, 4), (4, 4, 4, 4), [4, 4, 4])
        check_judged(self, is_still, (PLAIN, 0), right, wrong)
        check_judged(self, is_still, (TWIST, 0), ((0, 0, 0),), ((1, 1, 1), (1, 1, -1)))
        check_judged(self, is_still, (constant((), 1), 0), ((),), ((0,),))
        check_judged(self, is_still, (constant(FILLED, 1), 1), ((2, 4, 2), (0, 1, 1)), ((1, 0, 0), (2, 4, True)))

    def test_wrong_arguments(self):
        for function in (is_telling, is_still):
            check_wrong(self, function, (PLAIN, 0, ()), ("table", "degree", None))


class Rises(unittest.TestCase):
    def test_rises(self):
        for table in TABLES:
            for degree in degrees(table):
                grid = rise_grid(table, degree)
                self.assertEqual(grid[0], told_size(table, degree))
                self.assertEqual(len(grid[1]), told_size(table, degree + 1))
                for telling in some_tellings(table, degree, 7):
                    self.assertEqual(rise(table, degree, telling), told_rise(table, degree, telling))
                    self.assertEqual(moved(grid, telling), told_rise(table, degree, telling))

    def test_rises_are_still(self):
        for table in TABLES:
            for degree in list(degrees(table))[1:]:
                product = times(rise_grid(table, degree), rise_grid(table, degree - 1))
                self.assertFalse(any([any(row) for row in product[1]]))

    def test_constant_tables_have_turned_borders(self):
        for space in (ROUND, FILLED, SOLID):
            for degree in range(degree_of(space)):
                told = border(space, degree + 1)
                columns = tuple([tuple([row[at] for row in told[1]]) for at in range(told[0])])
                self.assertEqual(rise_grid(constant(space, 1), degree), (len(told[1]), columns))

    def test_greatest_degree(self):
        self.assertEqual(rise(PLAIN, 1, (1, 2, 3)), ())
        self.assertEqual(rise_grid(constant(POINTS[:30], 1), 0), (30, ()))
        self.assertEqual([rise_grid(constant((), 1), 0), rise(constant((), 1), 0, ())], [(0, ()), ()])
        self.assertEqual(rise(constant(SOLID, 1), 3, (5,)), ())

    def test_told_rises(self):
        self.assertEqual(rise_grid(MIXED, 0), (2, ((-1, -2), (-3, -4), (-5, -6))))
        self.assertEqual(rise(TWIST, 0, (5, 7, 9)), (2, 4, -16))
        self.assertEqual(rise(constant(FILLED, 1), 1, (1, 10, 100)), (91,))

    def test_a_telling_that_is_nought_at_all_faces_of_a_cell(self):
        table = constant(SOLID, 2)
        for telling in some_tellings(table, 1, 3):
            below = split(table, 1, telling)
            for cell in cells_of(SOLID, 2):
                noughts = {face: (0, 0) for _, face in faces(cell)}
                told = on_cells(table, 1, {**below, **noughts})
                self.assertEqual(part(table, 2, rise(table, 1, told), cell), (0, 0))

    def test_wrong_arguments(self):
        for function in (rise, carrier):
            check_wrong(self, function, (PLAIN, 1, (1, 2, 3)), ("table", "degree", "telling"))
            for telling in ((), (1, 2), (1, 2, 3, 4), (1, 2, True), [1, 2, 3], (1, 2, 10 ** 12)):
                refusal(self, function, (PLAIN, 1, telling), InvalidTelling)
            function(constant((), 1), 0, ())
            refusal(self, function, (constant((), 1), 0, (0,)), InvalidTelling)


class Parts(unittest.TestCase):
    def test_parts_and_carriers(self):
        for table in TABLES:
            for degree in degrees(table):
                for telling in some_tellings(table, degree, 9, 6, 1):
                    told = split(table, degree, telling)
                    for cell in told:
                        self.assertEqual(part(table, degree, telling, cell), told[cell])
                    self.assertEqual(
                        carrier(table, degree, telling), tuple([cell for cell in sorted(told) if any(told[cell])]))
                    self.assertEqual(on_cells(table, degree, told), telling)

    def test_told_cells(self):
        self.assertEqual(on_cells(PLAIN, 1, {}), (0, 0, 0))
        self.assertEqual(on_cells(PLAIN, 1, {(1, 2): (9,), (0, 1): (-10 ** 12 + 1,)}), (-10 ** 12 + 1, 0, 9))
        self.assertEqual(on_cells(MIXED, 0, {(1,): ()}), (0, 0))
        self.assertEqual(on_cells(MIXED, 0, {(1,): (), (0,): (3, 4)}), (3, 4))
        self.assertEqual(on_cells(constant((), 1), 0, {}), ())
        self.assertEqual(carrier(PLAIN, 1, (0, 0, 0)), ())

    def test_what_is_passed_stays(self):
        told = {(1, 2): (9,), (0, 1): (3,)}
        on_cells(PLAIN, 1, told)
        self.assertEqual(list(told.items()), [((1, 2), (9,)), ((0, 1), (3,))])
        made = spots(PLAIN, 1)
        made.clear()
        self.assertEqual(len(spots(PLAIN, 1)), 3)

    def test_wrong_parts(self):
        check_wrong(self, part, (PLAIN, 1, (1, 2, 3), (0, 1)), ("table", "degree", "telling", "cell of"))
        for cell in ((0,), (1,), (0, 1, 2), (0, 3)):
            refusal(self, part, (PLAIN, 1, (1, 2, 3), cell), InvalidCell)
        refusal(self, part, (PLAIN, 1, (1, 2), (0,)), InvalidTelling)

    def test_wrong_told_ones(self):
        check_wrong(self, on_cells, (PLAIN, 1, {}), ("table", "degree", None))
        wrong = (
            {(0,): (1,)}, {(0, 3): (1,)}, {(0, 1): ()}, {(0, 1): (1, 2)}, {(0, 1): [1]}, {(0, 1): 1}, {(0, 1): (True,)},
            {(0, 1): (10 ** 12,)}, {(0, True): (1,)}, {(False, 1): (1,)}, {(0, 1): None}, {(1, 0): (1,)}, {0: (1,)},
            {(0, 1): (1,), (0,): (1,)}, {(0, 1, 2): (1,)}, [((0, 1), (1,))], {(0, 1): TWIST})
        for told in ODD + wrong:
            if not (type(told) is dict and told == {}):
                refusal(self, on_cells, (PLAIN, 1, told), InvalidTelling)
        refusal(self, on_cells, (None, 9, None), InvalidTable)
        refusal(self, on_cells, (PLAIN, 9, None), InvalidNumber)


class Spread(unittest.TestCase):
    def test_along_any_way(self):
        for table in TABLES:
            for cell, goal in itertools.product(table.space, repeat=2):
                degree = len(cell) - 1
                for telling in some_tellings(table, degree, 4, 2):
                    row = split(table, degree, telling)[cell]
                    if set(cell) <= set(goal):
                        last, at = row, cell
                        for point in sorted(set(goal) - set(cell), reverse=True):
                            further = tuple(sorted(at + (point,)))
                            last, at = moved(table.maps[(at, further)], last), further
                        self.assertEqual(spread(table, degree, cell, row, goal), last)
                    else:
                        refusal(self, spread, (table, degree, cell, row, goal), InvalidOperation)

    def test_told_rows(self):
        self.assertEqual(spread(MIXED, 0, (0,), (10, 1), (0, 1)), (12, 34, 56))
        self.assertEqual(spread(MIXED, 0, (1,), (), (0, 1)), (0, 0, 0))
        self.assertEqual(spread(TWIST, 0, (2,), (5,), (1, 2)), (-5,))
        self.assertEqual(spread(TWIST, 1, (1, 2), (5,), (1, 2)), (5,))

    def test_wrong_arguments(self):
        good = (PLAIN, 0, (2,), (5,), (1, 2))
        check_wrong(self, spread, good, ("table", "degree", "cell of", "row", "cell of"))
        for wrong in WRONG_CELLS + ((0, 1), (3,), (0, 1, 2)):
            refusal(self, spread, (PLAIN, 0, wrong, (5,), (1, 2)), InvalidCell)
        for wrong in WRONG_ROWS + ((), (1, 2)):
            refusal(self, spread, (PLAIN, 0, (2,), wrong, (1, 2)), InvalidRow)
            refusal(self, spread, (PLAIN, 0, (2,), wrong, (9, 99)), InvalidRow)
        for goal in ((0, 1), (0,), (1,)):
            refusal(self, spread, (PLAIN, 0, (2,), (5,), goal), InvalidOperation)
        for wrong in WRONG_TABLES:
            refusal(self, spread, (wrong, None, None, None, None), InvalidTable)


class NamesOfTheExamples(unittest.TestCase):
    def test_they_are_as_the_document_has_them(self):
        self.assertEqual((ONE, LESS, TWO), ((1, ((1,),)), (1, ((-1,),)), (1, ((2,),))))
        self.assertEqual(TWIST.space, ((0,), (1,), (2,), (0, 1), (0, 2), (1, 2)))
        self.assertEqual(TWIST.ranks, {cell: 1 for cell in ROUND})
        self.assertEqual([pair for pair, grid in TWIST.maps.items() if grid != ONE], [((2,), (1, 2))])
        self.assertEqual(TWIST.maps[((2,), (1, 2))], LESS)
        self.assertEqual(constant(EDGE, 2).maps[((0,), (0, 1))], unit(2))


if __name__ == "__main__":
    unittest.main()
