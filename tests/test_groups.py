"""Bare rows and their groups [9.1] to [9.7]."""

import itertools
import random
import unittest

from gluewhole.base.made import plain_kernel
from gluewhole.errors import InvalidNumber, InvalidRow, InvalidRows, InvalidTelling
from gluewhole.tables.groups import (
    Makers, Rows, alike_answer, are_makers, group, group_answer, is_still_row, rise_of, rows_of, telling_answer)
from gluewhole.tables.tables import Table, constant, table_product
from gluewhole.tables.tellings import rise_grid, sizes
from tests.helper import (
    EDGE, FILLED, ODD, ONE, ROUND, TWIST, TWO, WRONG, WRONG_INTEGERS, WRONG_ROWS_OBJECTS, check_judged, check_wrong,
    closed, deep, degrees_of, holds, is_zero, known_rows, moved, nought, product_sum, random_tables, read, refusal,
    rows_of_blocks, scaled, some_row, transposed, unit)

PLAIN, BENT = rows_of(constant(ROUND, 1)), rows_of(TWIST)
LONG = 10 ** 30
KNOWN = known_rows(91, 60)
TABLES = random_tables(92, 25)
HALF = Rows((1, 1), (TWO,))
# Divisors 2 and 4 beside free ones, and 6 and 12, turned by undone grids.
MANY = rows_of_blocks(
    [(0, 2), (0, 4), (0, 0), (1, 0), (1, 6), (1, 12), (1, 1), (2, 0), (2, 30), (0, 1)], 4, random.Random(93))
# Rows of more than twelve digits.
WIDE = Rows((2, 2), ((2, ((LONG, 3 * LONG), (0, 2 * LONG))),))


def still_rows(rows, degree, source, many=3):
    """A few still tellings of bare rows."""
    grid = rows.grid(degree)
    base = transposed(plain_kernel(grid))[1]
    found = [(0,) * grid[0]]
    for _ in range(many):
        row = (0,) * grid[0]
        for maker in base:
            number = source.randint(-3, 3)
            row = tuple([a + number * b for a, b in zip(row, maker)])
        found.append(row)
    low = rows.grid(degree - 1)
    found.append(moved(low, some_row(low[0], source)))
    return found


def less(one, other):
    """The first row less the second one."""
    return tuple([a - b for a, b in zip(one, other)])


class Examples(unittest.TestCase):
    def test_rows_and_groups(self):
        self.assertEqual(
            repr([PLAIN.sizes, PLAIN.grid(-1), PLAIN.grid(1), group(PLAIN, 0), group(PLAIN, 1), group(BENT, 0),
                  group(BENT, 1), str(BENT)]),
            "[(3, 3), (0, ((), (), ())), (3, ()), (1, ()), (1, ()), (0, ()), (0, (2,)), 'rows of 3, 3']")

    def test_answers(self):
        self.assertEqual(
            [telling_answer(PLAIN, 1, (2, 4, 2))[0][0], telling_answer(PLAIN, 1, (1, 0, 0))[0][0],
             telling_answer(BENT, 1, (1, 0, 0))[0][0], telling_answer(BENT, 1, (2, 0, 0))[0][0]],
            ["made", "barred", "barred", "made"])

    def test_makers(self):
        makers = Makers(BENT, 1)
        self.assertEqual(
            [makers.divisors, len(makers), makers.coordinates((1, 0, 0)), makers.coordinates((3, 1, 0)),
             makers.coordinates(makers.telling((-5,))), are_makers(BENT, 1, ((0, 0, 7),)),
             are_makers(BENT, 1, ((2, 0, 0),))],
            [(2,), 1, (1,), (0,), (1,), True, False])

    def test_alike_ones(self):
        self.assertEqual(
            [alike_answer(PLAIN, 1, (1, 0, 0), (0, -1, 0))[0][0], alike_answer(PLAIN, 1, (1, 0, 0), (0, 1, 0))[0][0],
             is_still_row(PLAIN, 0, (1, 1, 1))],
            ["made", "barred", True])

    def test_one_that_raises(self):
        refusal(self, Rows, ((1, 1, 1), (ONE, ONE)), InvalidRows)


class BareRows(unittest.TestCase):
    def test_right_ones(self):
        for told, grids in (
                ((0,), ()), ((30,), ()), ((0, 0), ((0, ()),)), ((0, 2), ((0, ((), ())),)), ((2, 0), ((2, ()),)),
                ((1, 1, 1), (ONE, (1, ((0,),)))), ((1,) * 5, ((1, ((0,),)), TWO, (1, ((0,),)), ONE)),
                ((30, 30), (scaled(unit(30), 7),)), ((1, 1), ((1, ((10 ** 99,),)),)),
                ((2, 2, 1), ((2, ((LONG, LONG), (LONG, LONG))), (2, ((1, -1),))))):
            rows = Rows(told, grids)
            self.assertEqual((rows.sizes, rows.grids, len(rows)), (told, grids, len(told)))
            self.assertEqual(str(rows), "rows of " + ", ".join([str(size) for size in told]))

    def test_wrong_ones(self):
        for told in (
                None, True, 0, "1", (), [], [1, 1], {}, (1,) * 6, (-1, 1), (31, 1), (1, 31), (True, 1), (1, True),
                (None, 1), ("1", 1), (1, (1,)), (10 ** 12, 1), (10 ** 99,), TWIST, (TWIST, 1), deep(1), ((1,), (1,))):
            refusal(self, Rows, (told, (ONE,)), InvalidRows)
        for grids in (
                None, True, 0, "", (), [], [ONE], {}, (ONE, ONE), ((1, ()),), ((2, ((1, 1),)),), ((1, ((1,), (1,))),),
                ((1, [(1,)]),), ((1, ((True,),)),), ((True, ((1,),)),), ((1, ((None,),)),), (ONE[1],), (None,),
                TWIST, (TWIST,), (PLAIN,), deep(1)):
            refusal(self, Rows, ((1, 1), grids), InvalidRows)
        refusal(self, Rows, ((1, 1, 1), (ONE, TWO)), InvalidRows)
        refusal(self, Rows, ((1,) * 6, (nought(1, 1),) * 5), InvalidRows)
        for told in ((-1,), (31,), (True,), (None,)):
            refusal(self, Rows, (told, ()), InvalidRows)
        refusal(self, Rows, ((1, 1, 1, 1), (ONE, (1, ((0,),)), ONE, ONE)), InvalidRows)
        refusal(self, Rows, ((1, 2, 1), ((1, ((1,), (1,))), (2, ((1, 1),)))), InvalidRows)
        Rows((1, 2, 1), ((1, ((1,), (1,))), (2, ((1, -1),))))

    def test_grids(self):
        for rows in [rows for rows, _ in KNOWN] + [PLAIN, WIDE]:
            last = len(rows) - 1
            self.assertEqual(rows.grid(-1), nought(rows.sizes[0], 0))
            self.assertEqual(rows.grid(last), nought(0, rows.sizes[last]))
            self.assertEqual(tuple([rows.grid(degree) for degree in range(last)]), rows.grids)
            for degree in (-2, last + 1, 10 ** 12, None, True, False, "0", (0,), TWIST):
                self.assertIs(refusal(self, rows.grid, (degree,), InvalidNumber).given, degree)

    def test_equal_ones(self):
        self.assertEqual(PLAIN, Rows(PLAIN.sizes, PLAIN.grids))
        self.assertFalse(PLAIN == BENT)
        self.assertFalse(PLAIN != rows_of(constant(ROUND, 1)))
        self.assertFalse(Rows((0, 0), ((0, ()),)) == Rows((0,), ()))
        self.assertFalse(Rows((3,), ()) == Rows((2,), ()))
        for value in ODD + (PLAIN.sizes, Makers(PLAIN, 0), (PLAIN.sizes, PLAIN.grids)):
            self.assertFalse(PLAIN == value)
            self.assertFalse(value == PLAIN)
            self.assertFalse(Makers(PLAIN, 0) == value if value != Makers(PLAIN, 0) else False)
        self.assertIn(PLAIN, (None, BENT, rows_of(constant(ROUND, 1))))
        self.assertRaises(TypeError, iter, PLAIN)
        self.assertRaises(TypeError, iter, Makers(PLAIN, 0))

    def test_rows_of_tables(self):
        for table in TABLES:
            rows = rows_of(table)
            self.assertEqual(rows.sizes, sizes(table))
            for degree in degrees_of(table):
                self.assertEqual(rows.grid(degree), rise_grid(table, degree))
        self.assertEqual((rows_of(constant((), 3)).sizes, rows_of(constant((), 3)).grids), ((0,), ()))
        self.assertEqual(rows_of(constant(FILLED, 0)).sizes, (0, 0, 0))
        self.assertEqual(rows_of(constant(closed([(0, 1, 2, 3)]), 1)).sizes, (4, 6, 4, 1))
        check_wrong(self, rows_of, (TWIST,), ("table",))

    def test_long_tables(self):
        big = Table(EDGE, {cell: 1 for cell in EDGE}, {
            ((0,), (0, 1)): (1, ((10 ** 12 - 1,),)), ((1,), (0, 1)): (1, ((17,),))})
        rows = rows_of(table_product(table_product(big, big), big))
        self.assertEqual(rows.grids[0][1][0], (-(10 ** 12 - 1) ** 3, 4913))
        self.assertEqual(group(rows, 1), (0, ()))


class Rises(unittest.TestCase):
    def test_rises(self):
        source = random.Random(1)
        for rows, _ in KNOWN:
            for degree in range(len(rows)):
                row = some_row(rows.sizes[degree], source)
                found = rise_of(rows, degree, row)
                self.assertEqual(found, moved(rows.grid(degree), row))
                self.assertIs(is_still_row(rows, degree, row), not any(found))
                for still in still_rows(rows, degree, source):
                    self.assertIs(is_still_row(rows, degree, still), True)
        self.assertEqual(rise_of(WIDE, 0, (LONG, 1)), (LONG * LONG + 3 * LONG, 2 * LONG))
        self.assertEqual(rise_of(WIDE, 1, (LONG, 1)), ())
        self.assertEqual(rise_of(Rows((0,), ()), 0, ()), ())

    def test_judging(self):
        check_judged(
            self, is_still_row, (PLAIN, 0), [(1, 1, 1), (0, 0, 0), (LONG, LONG, LONG)],
            [(1, 1), (1, 1, 2), [1, 1, 1], (True, True, True), (False,) * 3, (1, 1, 1, 1)])
        check_judged(self, is_still_row, (Rows((0,), ()), 0), [()])
        check_judged(self, is_still_row, (HALF, 1), [(0,), (LONG,), (-7,)], [(True,), ((1,),)], ODD[:30])
        check_judged(self, is_still_row, (HALF, 0), [(0,)], [(1,), (False,)])

    def test_wrong_ones(self):
        check_wrong(self, is_still_row, (PLAIN, 1, None), ("rows", "degree 1", None))
        for function in (rise_of, telling_answer):
            check_wrong(self, function, (PLAIN, 1, (1, 2, 3)), ("rows", "degree 1", "long telling"))
            refusal(self, function, (PLAIN, 1, (1, 2)), InvalidTelling)
            refusal(self, function, (PLAIN, 0, (1, 2, 3, 4)), InvalidTelling)
            refusal(self, function, (TWIST, 0, (1, 2, 3)), InvalidRows)
        check_wrong(
            self, alike_answer, (PLAIN, 1, (1, 2, 3), (0, 0, 0)), ("rows", "degree 1", "long telling", "long telling"))
        for rows in (PLAIN, Rows((3,), ()), Rows((1,) * 5, (nought(1, 1),) * 4)):
            most = len(rows) - 1
            is_still_row(rows, most, None)
            for degree in (most + 1, -1):
                self.assertEqual(refusal(self, is_still_row, (rows, degree, None), InvalidNumber).given, degree)


class Answers(unittest.TestCase):
    def test_both_sides(self):
        source, kinds = random.Random(2), []
        for rows, _ in KNOWN + [MANY]:
            for degree in range(len(rows)):
                low = rows.grid(degree - 1)
                tellings = still_rows(rows, degree, source, 2) + [some_row(rows.sizes[degree], source)]
                for telling in tellings:
                    claim, paper = telling_answer(rows, degree, telling)
                    self.assertEqual(claim[1:], (low, telling))
                    self.assertTrue(holds(claim, paper))
                    kinds.append((claim[0], paper[0] > 0 if claim[0] == "barred" else None))
                    other = source.choice(tellings)
                    claim, paper = alike_answer(rows, degree, telling, other)
                    self.assertEqual(claim[1:], (low, less(telling, other)))
                    self.assertTrue(holds(claim, paper))
        for kind in (("made", None), ("barred", True), ("barred", False)):
            self.assertGreater(kinds.count(kind), 15)

    def test_rises_are_made(self):
        source = random.Random(3)
        for rows, _ in KNOWN:
            for degree in range(1, len(rows)):
                origin = some_row(rows.sizes[degree - 1], source)
                claim, paper = telling_answer(rows, degree, rise_of(rows, degree - 1, origin))
                self.assertEqual(claim[0], "made")
                self.assertEqual(rise_of(rows, degree - 1, paper), claim[2])

    def test_long_ones(self):
        claim, paper = telling_answer(WIDE, 1, (4 * LONG, 2 * LONG))
        self.assertEqual((claim[0], paper), ("made", (1, 1)))
        claim, paper = telling_answer(WIDE, 1, (4 * LONG, LONG))
        self.assertEqual(claim[0], "barred")
        self.assertTrue(holds(claim, paper))
        claim, paper = telling_answer(PLAIN, 0, (0, LONG, 0))
        self.assertEqual(claim, ("barred", (0, ((), (), ())), (0, LONG, 0)))
        self.assertTrue(holds(claim, paper))
        self.assertEqual(telling_answer(PLAIN, 0, (0, 0, 0))[1], ())


class Groups(unittest.TestCase):
    def test_known_groups(self):
        found = []
        for rows, groups in KNOWN + [MANY]:
            for degree, told in enumerate(groups):
                self.assertEqual(group(rows, degree), told)
                found.append(told)
        self.assertEqual(MANY[1], ((1, ()), (1, (2, 4)), (1, (6, 12)), (0, (30,))))
        self.assertTrue(any([len(divisors) > 1 for _, divisors in found]))
        self.assertTrue(any([rank > 1 for rank, _ in found]))

    def test_papers(self):
        for rows, groups in KNOWN + [MANY]:
            for degree, told in enumerate(groups):
                claim, paper = group_answer(rows, degree)
                self.assertEqual(claim, ("group", rows.grid(degree - 1), rows.grid(degree)) + told)
                self.assertTrue(holds(claim, paper))
                # The same paper shows nothing of another rank or other divisors.
                self.assertFalse(holds(claim[:3] + (told[0] + 1, told[1]), paper))
                self.assertFalse(holds(claim[:3] + (told[0], told[1] + (60,)), paper))

    def test_tables(self):
        for table in TABLES:
            rows = rows_of(table)
            for degree in degrees_of(table):
                claim, paper = group_answer(rows, degree)
                self.assertEqual(claim[3:], group(rows, degree))
                self.assertTrue(holds(claim, paper))

    def test_edges(self):
        self.assertEqual(group(Rows((0,), ()), 0), (0, ()))
        self.assertEqual(group(Rows((30,), ()), 0), (30, ()))
        self.assertEqual(group(Rows((0, 30), ((0, ((),) * 30),)), 1), (30, ()))
        self.assertEqual(group(Rows((30, 30), (scaled(unit(30), 6),)), 1), (0, (6,) * 30))
        self.assertEqual(group(Rows((1, 1), ((1, ((LONG,),)),)), 1), (0, (LONG,)))
        self.assertEqual([group(WIDE, 0), group(WIDE, 1)], [(0, ()), (0, (LONG, 2 * LONG))])
        self.assertEqual(group(Rows((2, 2), ((2, ((2, 0), (0, 3))),)), 1), (0, (6,)))
        claim, paper = group_answer(WIDE, 1)
        self.assertTrue(holds(claim, paper))
        for rows in (Rows((0,), ()), Rows((0, 30), ((0, ((),) * 30),))):
            for degree in range(len(rows)):
                self.assertTrue(holds(*group_answer(rows, degree)))

    def test_greatest_sizes(self):
        source = random.Random(94)
        rows, groups = rows_of_blocks(
            [(0, number) for number in (1, 1, 1, 2, 2, 4, 12, 60)] + [(0, 0)] * 12
            + [(1, number) for number in (1, 1, 3, 9, 0, 0, 0, 1, 1, 1)], 3, source, 60)
        self.assertEqual(rows.sizes, (20, 18, 7))
        for degree in range(3):
            self.assertEqual(group(rows, degree), groups[degree])
            self.assertTrue(holds(*group_answer(rows, degree)))
            makers = Makers(rows, degree)
            self.assertIs(are_makers(rows, degree, makers.makers), True)

    def test_wrong_ones(self):
        for function in (group, group_answer, Makers):
            check_wrong(self, function, (PLAIN, 1), ("rows", "degree 1"))

    def test_not_true(self):
        # [9.7]: twice the telling is made, the telling is not; and no reading modulo 0 tells it apart from noughts.
        self.assertEqual(telling_answer(BENT, 1, (2, 0, 0))[0][0], "made")
        claim, paper = telling_answer(BENT, 1, (1, 0, 0))
        self.assertEqual((claim[0], paper[0]), ("barred", 2))
        self.assertEqual(group(BENT, 1), (0, (2,)))


class AllMakers(unittest.TestCase):
    def check(self, rows, degree, source):
        makers = Makers(rows, degree)
        low, high = rows.grid(degree - 1), rows.grid(degree)
        self.assertEqual((makers.rank, makers.divisors), group(rows, degree))
        self.assertEqual(len(makers), makers.rank + len(makers.divisors))
        self.assertEqual(len(makers.makers), len(makers))
        moduli = makers.divisors + (0,) * makers.rank
        self.assertEqual(tuple([m for m, _ in makers.readings]), moduli)
        for at, (maker, (m, row)) in enumerate(zip(makers.makers, makers.readings)):
            self.assertFalse(any(moved(high, maker)))
            self.assertEqual(len(row), len(maker))
            self.assertTrue(all([is_zero(number, m) for number in read(row, low)]))
            self.assertEqual(makers.coordinates(maker), tuple([int(at == place) for place in range(len(moduli))]))
            if m:
                multiple = tuple([m * number for number in maker])
                self.assertEqual(telling_answer(rows, degree, multiple)[0][0], "made")
        self.assertIs(are_makers(rows, degree, makers.makers), True)
        tellings = still_rows(rows, degree, source)
        for telling in tellings:
            told = makers.coordinates(telling)
            self.assertTrue(all([0 <= number < m for number, m in zip(told, moduli) if m]))
            for number, (m, row) in zip(told, makers.readings):
                self.assertTrue(is_zero(product_sum(row, telling) - number, m))
            self.assertEqual(alike_answer(rows, degree, telling, makers.telling(told))[0][0], "made")
            other = source.choice(tellings)
            both = tuple([a + b for a, b in zip(told, makers.coordinates(other))])
            both = tuple([number % m if m else number for number, m in zip(both, moduli)])
            self.assertEqual(makers.coordinates(tuple([a + b for a, b in zip(telling, other)])), both)
            same = alike_answer(rows, degree, telling, other)[0][0] == "made"
            self.assertIs(same, told == makers.coordinates(other))
        row = some_row(len(makers), source, 99)
        self.assertEqual(
            makers.coordinates(makers.telling(row)), tuple([n % m if m else n for n, m in zip(row, moduli)]))
        self.assertEqual(
            makers.telling(row),
            tuple([sum([n * maker[at] for n, maker in zip(row, makers.makers)]) for at in range(rows.sizes[degree])]))

    def test_to_and_fro(self):
        source = random.Random(4)
        for rows in [rows for rows, _ in KNOWN + [MANY]] + [rows_of(table) for table in TABLES] + [WIDE]:
            for degree in range(len(rows)):
                self.check(rows, degree, source)

    def test_equal_ones(self):
        for rows, _ in KNOWN[:20] + [MANY]:
            again = Rows(rows.sizes, tuple([(width, tuple([tuple(list(row)) for row in grid]))
                                            for width, grid in rows.grids]))
            for degree in range(len(rows)):
                one, other = Makers(rows, degree), Makers(again, degree)
                self.assertEqual(one, other)
                self.assertEqual((one.makers, one.readings), (other.makers, other.readings))
        self.assertFalse(Makers(PLAIN, 0) == Makers(PLAIN, 1))
        self.assertFalse(Makers(PLAIN, 0) == Makers(BENT, 0))
        self.assertFalse(Makers(PLAIN, 0) == PLAIN)
        self.assertFalse(Makers(PLAIN, 0) is None)
        self.assertIn(Makers(PLAIN, 0), (None, PLAIN, Makers(PLAIN, 0)))

    def test_long_ones(self):
        makers = Makers(PLAIN, 1)
        self.assertEqual(makers.coordinates((LONG, -LONG, LONG)), (3 * LONG * makers.coordinates((1, 0, 0))[0],))
        self.assertEqual(makers.coordinates(makers.telling((10 ** 99,))), (10 ** 99,))
        makers = Makers(BENT, 1)
        self.assertEqual(makers.coordinates((LONG + 1, 0, 0)), (1,))
        self.assertEqual(makers.coordinates(makers.telling((-LONG - 1,))), (1,))
        makers = Makers(WIDE, 1)
        self.assertEqual(makers.divisors, (LONG, 2 * LONG))
        self.assertEqual(makers.coordinates(makers.telling((-1, 2 * LONG + 5))), (LONG - 1, 5))

    def test_none(self):
        makers = Makers(Rows((0,), ()), 0)
        self.assertEqual(
            (makers.rank, makers.divisors, makers.makers, makers.readings, len(makers)), (0, (), (), (), 0))
        self.assertEqual((makers.coordinates(()), makers.telling(())), ((), ()))
        makers = Makers(HALF, 0)
        self.assertEqual((makers.coordinates((0,)), makers.telling(())), ((), (0,)))

    def test_wrong_tellings(self):
        makers = Makers(PLAIN, 0)
        for value in WRONG["long telling"][1] + ((1, 1), (1, 1, 2), (0,) * 4, (True, 1, 1)):
            refusal(self, makers.coordinates, (value,), InvalidTelling)
        for value in WRONG["coordinates"][1] + ((), (1, 2), (True,)):
            if value != (1,):
                refusal(self, makers.telling, (value,), InvalidRow)
        refusal(self, Makers(HALF, 0).coordinates, ((1,),), InvalidTelling)
        refusal(self, Makers(HALF, 0).telling, ((0,),), InvalidRow)

    def test_judging(self):
        check_judged(
            self, are_makers, (BENT, 1), [((1, 0, 0),), ((0, 0, 7),), ((-1, 2, 0),), ((2 * LONG + 1, 0, 0),)],
            [((2, 0, 0),), (), ((1, 0, 0), (1, 0, 0)), ((1, 0),), (1, 0, 0), ((True, 0, 0),), [(1, 0, 0)],
             ([1, 0, 0],)])
        check_judged(self, are_makers, (BENT, 0), [()], [((0, 0, 0),)])
        check_judged(self, are_makers, (PLAIN, 0), [((1, 1, 1),), ((-1, -1, -1),)], [((1, 1, 2),), ((2, 2, 2),)])
        # Two divisors: 2 ahead of 4; a maker of the first one may have twice the second maker added.
        rows = Rows((2, 2), ((2, ((2, 0), (0, 4))),))
        check_judged(
            self, are_makers, (rows, 1),
            [((1, 0), (0, 1)), ((1, 2), (0, 1)), ((1, 0), (1, 1)), ((3, 2), (1, -1)), ((1, 2), (1, 3))],
            [((0, 1), (1, 0)), ((1, 1), (0, 1)), ((1, 0), (0, 2)), ((1, 0), (1, 2)), ((1, 2), (2, 2)), ((1, 0),),
             ((0, 2), (0, 1)), ((1, 2), (1, 2)), ((1, 0), (0, 1), (0, 0))])
        # A divisor and a free one: the free one may have the other added, not the other way round.
        rows = Rows((1, 2), ((1, ((3,), (0,))),))
        check_judged(
            self, are_makers, (rows, 1), [((1, 0), (0, 1)), ((2, 0), (5, -1)), ((-1, 0), (1, 1))],
            [((1, 1), (0, 1)), ((0, 1), (1, 0)), ((1, 0), (0, 2)), ((3, 0), (0, 1)), ((1, 0), (1, 0))])

    def test_judging_by_all_sums(self):
        # Divisors 2, 4 and 4: the values are makers exactly if their sums come to all 32 coordinates.
        rows = Rows((3, 3), ((3, ((2, 0, 0), (0, 4, 0), (0, 0, 4))),))
        source, found = random.Random(6), []
        for _ in range(150):
            value = tuple([some_row(3, source, 3) for _ in range(3)])
            if source.random() < 0.5:
                value = ((value[0][0], 2 * (value[0][1] % 2), 2 * (value[0][2] % 2)),) + value[1:]
            multiples = itertools.product(range(2), range(4), range(4))
            sums = {tuple([sum([n * row[at] for n, row in zip(many, value)]) % (2, 4, 4)[at] for at in range(3)])
                    for many in multiples}
            made = all([q * number % m == 0 for q, row in zip((2, 4, 4), value) for number, m in zip(row, (2, 4, 4))])
            self.assertIs(are_makers(rows, 1, value), made and len(sums) == 32)
            found.append(made and len(sums) == 32)
        self.assertGreater(found.count(True), 8)
        self.assertGreater(found.count(False), 8)

    def test_turned_makers(self):
        source = random.Random(7)
        for rows, groups in KNOWN + [MANY]:
            for degree in range(len(rows)):
                makers = Makers(rows, degree)
                moduli = makers.divisors + (0,) * makers.rank
                low, size = rows.grid(degree - 1), len(makers)
                changed = []
                for at in range(size):
                    row = [0] * size
                    row[at] = source.choice((1, -1))
                    for place in range(size):
                        if place < at and source.random() < 0.4:
                            row[place] = source.randint(-2, 2)
                    rise = moved(low, some_row(low[0], source, 3))
                    changed.append(tuple([a + b for a, b in zip(makers.telling(tuple(row)), rise)]))
                self.assertIs(are_makers(rows, degree, tuple(changed)), True)
                for at in range(size):
                    number = moduli[at] if moduli[at] else 2
                    worse = tuple([number * n for n in changed[at]])
                    self.assertIs(are_makers(rows, degree, tuple(changed[:at] + [worse] + changed[at + 1:])), False)
                    self.assertIs(are_makers(rows, degree, tuple(changed[:at] + changed[at + 1:])), False)

    def test_wrong_ones(self):
        check_wrong(self, are_makers, (PLAIN, 1, None), ("rows", "degree 1", None))
        for wrong in WRONG_ROWS_OBJECTS:
            refusal(self, Makers, (wrong, None), InvalidRows)
        for wrong in WRONG_INTEGERS:
            refusal(self, Makers, (BENT, wrong), InvalidNumber)


class Kept(unittest.TestCase):
    def test_nothing_is_shared(self):
        told, grids = (1, 1), (TWO,)
        rows = Rows(told, grids)
        self.assertEqual((rows.sizes, rows.grids), (told, grids))
        for name in ("sizes", "grids"):
            self.assertRaises(AttributeError, setattr, rows, name, ())
        makers = Makers(rows, 1)
        for name in ("rank", "divisors", "makers", "readings"):
            self.assertRaises(AttributeError, setattr, makers, name, ())
        value = [[1]]
        are_makers(rows, 1, value)
        self.assertEqual(value, [[1]])

    def test_equal_calls(self):
        for rows, _ in KNOWN[:15]:
            for degree in range(len(rows)):
                self.assertEqual(group_answer(rows, degree), group_answer(rows, degree))


if __name__ == "__main__":
    unittest.main()
