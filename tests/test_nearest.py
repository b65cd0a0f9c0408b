"""Nearest made and still rows, three parts, and talks [18.1] to [18.5]."""

import fractions
import itertools
import math
import random
import unittest

from gluewhole.base.quotients import eliminated, solved
from gluewhole.errors import (
    InvalidCell, InvalidGrid, InvalidNumber, InvalidOperation, InvalidRow, InvalidTable, InvalidTelling, TooMany)
from gluewhole.near.nearest import Talk, distance, nearest_made_answer, nearest_still_answer, parted_answer, square
from gluewhole.space.spaces import cells_of, space_of
from gluewhole.tables.groups import Rows, group, rows_of
from gluewhole.tables.tables import Table, constant, outside
from gluewhole.tables.tellings import rise_grid, sizes, spots
from tests.helper import (
    EDGE, EDGE_GRIDS, FILLED, ODD, ONE, ROUND, TWIST, TWO, WRONG, WRONG_INTEGERS, as_fractions, as_pairs, check_wrong,
    closed, degrees_of, dense, grids, holds, known_rows, less_of, moved, nought, product_sum, random_tables, read,
    refusal, scaled, some_row, stills, times, transposed, unit)

PATH = constant(space_of(((0, 1), (1, 2))), 1)
LONG = 10 ** 40
WRONG_FRACTIONS = (
    None, True, 0, "", "1", [], [(1, 1)], {}, {0: 1}, (1,), (0,), ((1,),), ((1, 1, 1),), ((1, 0),), ((1, -1),),
    ((2, 2),), ((0, 2),), ((2, 4),), ((-3, 6),), ((1, -2),), ((True, 1),), ((1, True),), ((0, 0),), ([1, 1],),
    ((1, 1), 1), ((None, 1),), (("1", 1),), ((1, 1), (2, 2)), ((LONG, LONG),), TWIST, (TWIST,), ((TWIST, 1),))
WRONG["fractions"] = (InvalidRow, WRONG_FRACTIONS)


def fraction_row(size, source, most=9):
    """A row of random fractions."""
    bottoms = (1, 1, 2, 3, 4, 7)
    return tuple([fractions.Fraction(source.randint(-most, most), source.choice(bottoms)) for _ in range(size)])


def length(row):
    """The square of a row."""
    return sum([number * number for number in row], fractions.Fraction(0))


def some_grids():
    """Grids of all sorts, of low ranks, without rows or columns."""
    return list(EDGE_GRIDS) + grids(180, 60)


def two_rises():
    """Pairs of grids of which the second one times the first one is 0."""
    found = [(low, high) for rows, _ in known_rows(181, 25) for low, high in itertools.pairwise(
        [rows.grid(degree) for degree in range(-1, len(rows))])]
    found += [((0, ((), ())), (2, ())), ((3, ()), (0, ((), ()))), ((0, ()), (0, ())), (nought(2, 3), nought(1, 2))]
    return found


class Examples(unittest.TestCase):
    def test_talk(self):
        talk = Talk(PATH, 0, (0, 3, 0))
        ones = ((1, 1), (1, 1), (1, 1))
        self.assertEqual(
            [talk.nearest(), talk.mend((0, 1)), talk.stands, talk.mend((1, 2)), talk.stands, talk.nearest(),
             talk.broken(), str(talk)],
            [ones, (9, 2), ((3, 2), (3, 2), (0, 1)), (9, 8), ((3, 2), (3, 4), (3, 4)), ones, ((0, 1),), "2 deeds"])

    def test_nearest(self):
        grid = (1, ((1,), (2,)))
        self.assertEqual(
            nearest_made_answer(grid, ((1, 1), (0, 1))),
            (("nearest made", grid, ((1, 1), (0, 1)), ((1, 5), (2, 5))), ((1, 5),)))
        self.assertEqual(distance(((1, 1), (0, 1)), ((1, 5), (2, 5))), (4, 5))


class Squares(unittest.TestCase):
    def test_squares(self):
        source = random.Random(1)
        for size in range(12):
            one, other = fraction_row(size, source), fraction_row(size, source, LONG)
            self.assertEqual(as_fractions((square(as_pairs(one)),)), (length(one),))
            self.assertEqual(as_fractions((distance(as_pairs(one), as_pairs(other)),)), (length(less_of(one, other)),))
            self.assertEqual(distance(as_pairs(other), as_pairs(other)), (0, 1))
        self.assertEqual([square(()), distance((), ()), square(((0, 1),))], [(0, 1)] * 3)
        self.assertEqual([square(((-1, 2), (1, 2))), square(((LONG, 1),))], [(1, 2), (LONG * LONG, 1)])
        # Rows of any length.
        self.assertEqual(square(((1, 3),) * 200), (200, 9))

    def test_wrong_ones(self):
        check_wrong(self, square, (((1, 2),),), ("fractions",))
        check_wrong(self, distance, (((1, 2),), ((-3, 1),)), ("fractions", "fractions"))
        for one, other in (((), ((1, 1),)), (((1, 1),), ((1, 1), (0, 1)))):
            refusal(self, distance, (one, other), InvalidOperation)
            refusal(self, distance, (other, one), InvalidOperation)
        refusal(self, distance, (((2, 2),), ()), InvalidRow)


class Nearest(unittest.TestCase):
    def test_made_ones(self):
        source = random.Random(2)
        for grid in some_grids():
            row = as_pairs(fraction_row(len(grid[1]), source))
            claim, paper = nearest_made_answer(grid, row)
            self.assertEqual(claim[:3], ("nearest made", grid, row))
            self.assertTrue(holds(claim, paper))
            # None that is made is nearer.
            near, told = as_fractions(claim[3]), as_fractions(row)
            for _ in range(3):
                other = moved(grid, fraction_row(grid[0], source, 3))
                self.assertGreaterEqual(length(less_of(told, other)), length(less_of(told, near)))
            # What is made is its own nearest one.
            self.assertEqual(nearest_made_answer(grid, claim[3])[0][3], claim[3])

    def test_still_ones(self):
        source = random.Random(3)
        for grid in some_grids():
            row = as_pairs(fraction_row(grid[0], source))
            claim, paper = nearest_still_answer(grid, row)
            self.assertEqual(claim[:3], ("nearest still", grid, row))
            self.assertTrue(holds(claim, paper))
            near, told = as_fractions(claim[3]), as_fractions(row)
            self.assertEqual(nearest_still_answer(grid, claim[3])[0][3], claim[3])
            # A turned row times a still one is 0 [18.1].
            turned = read(fraction_row(len(grid[1]), source), grid)
            self.assertEqual(product_sum(turned, near), 0)
            other = as_fractions(nearest_still_answer(grid, as_pairs(fraction_row(grid[0], source)))[0][3])
            self.assertGreaterEqual(length(less_of(told, other)), length(less_of(told, near)))

    def test_edges(self):
        self.assertEqual(nearest_made_answer((0, ((), ())), ((1, 2), (3, 1))), (
            ("nearest made", (0, ((), ())), ((1, 2), (3, 1)), ((0, 1), (0, 1))), ()))
        self.assertEqual(nearest_made_answer((0, ()), ()), (("nearest made", (0, ()), (), ()), ()))
        claim, paper = nearest_made_answer((2, ()), ())
        self.assertEqual((claim, len(paper)), (("nearest made", (2, ()), (), ()), 2))
        self.assertTrue(holds(claim, paper))
        self.assertEqual(nearest_still_answer((2, ()), ((1, 2), (3, 1)))[0][3], ((1, 2), (3, 1)))
        self.assertEqual(nearest_still_answer(unit(2), ((1, 2), (3, 1)))[0][3], ((0, 1), (0, 1)))
        claim, paper = nearest_still_answer((0, ((), ())), ())
        self.assertTrue(holds(claim, paper))
        self.assertEqual(nearest_made_answer(TWO, ((LONG + 1, LONG),)), (
            ("nearest made", TWO, ((LONG + 1, LONG),), ((LONG + 1, LONG),)), ((LONG + 1, 2 * LONG),)))

    def test_great_ones(self):
        source = random.Random(4)
        for grid in (dense(60, 60, 5, 10 ** 12 - 1), dense(60, 20, 6, 10 ** 12 - 1), dense(20, 60, 7, 10 ** 12 - 1)):
            row = as_pairs(fraction_row(len(grid[1]), source))
            self.assertTrue(holds(*nearest_made_answer(grid, row)))
            self.assertTrue(holds(*nearest_still_answer(grid, as_pairs(fraction_row(grid[0], source)))))
        low = times(dense(60, 9, 8), dense(9, 60, 9))
        self.assertTrue(holds(*nearest_made_answer(low, as_pairs(fraction_row(60, source)))))

    def test_wrong_ones(self):
        short = (InvalidRow, WRONG_FRACTIONS + ((), ((1, 1),), ((1, 1),) * 3))
        WRONG["two fractions"] = short
        check_wrong(self, nearest_made_answer, ((1, ((1,), (2,))), ((1, 1), (0, 1))), ("grid", "two fractions"))
        check_wrong(self, nearest_still_answer, ((2, ((1, 2),)), ((1, 1), (0, 1))), ("grid", "two fractions"))


class Equations(unittest.TestCase):
    def test_solutions(self):
        source, kinds = random.Random(5), []
        for grid in some_grids():
            for wanted in (dense(len(grid[1]), 2, source.random()), times(grid, dense(grid[0], 3, source.random()))):
                found = solved(grid, wanted)
                kinds.append(found is None)
                if found is not None:
                    self.assertGreater(found[0], 0)
                    self.assertEqual(times(grid, found[1]), scaled(wanted, found[0]))
            self.assertIsNotNone(found)
            leads, steps, left = eliminated(grid[1], grid[0])
            self.assertEqual(len(leads), len(steps))
            self.assertFalse(any([any(row) for row in left]))
        self.assertGreater(kinds.count(True), 20)


class Parted(unittest.TestCase):
    def test_parts(self):
        source = random.Random(6)
        for one, other in two_rises():
            row = as_pairs(fraction_row(other[0], source))
            claim, paper = parted_answer(one, other, row)
            self.assertEqual(claim[:4], ("parted", one, other, row))
            self.assertTrue(holds(claim, paper))
            parts = [as_fractions(some) for some in claim[4:]]
            for left, right in itertools.combinations(parts, 2):
                self.assertEqual(product_sum(left, right), 0)
            self.assertEqual(sum([length(some) for some in parts]), length(as_fractions(row)))
            # Each row is parted in one way: a part is parted to itself.
            for at, some in enumerate(claim[4:]):
                again = parted_answer(one, other, some)[0][4:]
                zero = ((0, 1),) * other[0]
                self.assertEqual(again, tuple([some if at == place else zero for place in range(3)]))

    def test_least_tellings(self):
        # Of a still telling h is the least one of its class, and the ranks of the groups tell how many there are.
        source = random.Random(7)
        for table in random_tables(182, 20, 5):
            rows = rows_of(table)
            for degree in degrees_of(table):
                low, high = rows.grid(degree - 1), rows.grid(degree)
                if not all([abs(number) < 10 ** 12 for grid in (low, high) for row in grid[1] for number in row]):
                    continue
                leasts = []
                for telling in stills(table, degree, source):
                    claim, _ = parted_answer(low, high, tuple([(number, 1) for number in telling]))
                    rest = as_fractions(claim[5])
                    self.assertFalse(any(as_fractions(claim[6])))
                    made = moved(low, some_row(low[0], source, 2))
                    alike = tuple([a + b for a, b in zip(telling, made)])
                    self.assertGreaterEqual(length(alike), length(rest))
                    self.assertEqual(parted_answer(low, high, tuple([(n, 1) for n in alike]))[0][5], claim[5])
                for at in range(high[0]):
                    telling = tuple([(int(at == place), 1) for place in range(high[0])])
                    rest = as_fractions(parted_answer(low, high, telling)[0][5])
                    under = math.lcm(*[number.denominator for number in rest])
                    leasts.append(tuple([int(number * under) for number in rest]))
                self.assertEqual(len(eliminated(leasts, high[0])[0]), group(rows, degree)[0])

    def test_wrong_ones(self):
        one, other = (1, ((1,), (1,))), (2, ((1, -1),))
        WRONG["two fractions"] = (InvalidRow, WRONG_FRACTIONS + ((), ((1, 1),), ((1, 1),) * 3))
        check_wrong(self, parted_answer, (one, other, ((1, 1), (0, 1))), ("grid", "grid", "two fractions"))
        for left, right in ((one, (2, ((1, 1),))), ((1, ((1,), (1,), (1,))), other), (ONE, ONE), ((1, ()), other)):
            row = ((1, 1),) * right[0]
            refusal(self, parted_answer, (left, right, row), InvalidOperation)
            refusal(self, parted_answer, (left, right, row + ((1, 1),)), InvalidRow)
        self.assertEqual(parted_answer((1, ((0,),)), TWO, ((1, 2),))[0][4:], (((0, 1),), ((0, 1),), ((1, 2),)))


def talks():
    """Talks on several tables, in all degrees."""
    source, found = random.Random(183), [Talk(PATH, 0, (0, 3, 0)), Talk(TWIST, 0, (1, 2, 3)), Talk(TWIST, 1, (1, 2, 3))]
    found += [Talk(constant(FILLED, 2), degree, some_row(6 if degree < 2 else 2, source)) for degree in range(3)]
    found += [Talk(constant((), 1), 0, ()), Talk(outside(constant(FILLED, 1), EDGE), 0, (5,))]
    for table in random_tables(184, 15, 5):
        for degree in degrees_of(table):
            found.append((Talk(table, degree, some_row(sizes(table)[degree], source))))
    return found


class Talks(unittest.TestCase):
    def test_deeds(self):
        source = random.Random(8)
        mended = 0
        for table in [PATH, TWIST, constant(FILLED, 2)] + random_tables(185, 12, 5):
            for degree in degrees_of(table):
                telling = some_row(sizes(table)[degree], source)
                talk = Talk(table, degree, telling)
                self.assertEqual((talk.stands, talk.deeds, len(talk)), (tuple([(n, 1) for n in telling]), (), 0))
                grid = rise_grid(table, degree)
                nearest = talk.nearest()
                self.assertFalse(any(moved(grid, as_fractions(nearest))))
                cells = cells_of(table.space, degree + 1) if degree < 3 else ()
                for count in range(6 if cells else 0):
                    cell = source.choice(cells)
                    begin, end = spots(table, degree + 1)[cell]
                    part = (grid[0], grid[1][begin:end])
                    stood = talk.stands
                    far = talk.mend(cell)
                    mended += far != (0, 1)
                    self.assertEqual(far, distance(stood, talk.stands))
                    # What comes is the nearest row at which the rise at the cell is 0.
                    self.assertEqual(talk.stands, nearest_still_answer(part, stood)[0][3])
                    self.assertFalse(any(moved(part, as_fractions(talk.stands))))
                    # Each still telling comes nearer by just this distance; the nearest one stays.
                    for still in stills(table, degree, source, 2):
                        told = tuple([(number, 1) for number in still])
                        ahead, behind, fall = as_fractions((distance(stood, told), distance(talk.stands, told), far))
                        self.assertEqual(ahead - behind, fall)
                    self.assertEqual(talk.nearest(), nearest)
                    self.assertEqual((len(talk), talk.deeds[-1]), (count + 1, cell))
                    again = talk.stands
                    self.assertEqual(talk.mend(cell), (0, 1))
                    self.assertEqual(talk.stands, again)
                    talk.undo()
                    self.check_broken(talk, table, degree)
        self.assertGreater(mended, 40)

    def check_broken(self, talk, table, degree):
        """The broken cells are those at which the rise is not 0; the talk is still if there are none."""
        rise = moved(rise_grid(table, degree), as_fractions(talk.stands))
        told = spots(table, degree + 1) if degree + 1 in degrees_of(table) else {}
        broken = tuple([cell for cell, (begin, end) in told.items() if any(rise[begin:end])])
        self.assertEqual(talk.broken(), broken)
        self.assertIs(talk.is_still(), broken == ())

    def test_sequences(self):
        # Whatever cells are mended, in whatever sequence, the nearest still telling is the one at the begin.
        for talk in talks():
            begin, nearest = talk.stands, talk.nearest()
            for cell in [cell for cell in talk_cells(talk) for _ in range(2)]:
                talk.mend(cell)
                self.assertEqual(talk.nearest(), nearest)
            # The row that stands now has the same nearest one: it is that of a grid whose rows are the rises.
            again = nearest_still_answer(rise_grid(talk._table, talk._degree), talk.stands)
            self.assertEqual(again[0][3], nearest)
            for _ in talk.deeds:
                talk.undo()
            self.assertEqual(talk.stands, begin)
        table = constant(closed([(0, 1, 2), (1, 2, 3)]), 1)
        for cells in itertools.permutations(cells_of(table.space, 1), 3):
            talk = Talk(table, 0, (3, -1, 4, 9))
            for cell in cells:
                talk.mend(cell)
            self.assertEqual(talk.nearest(), ((15, 4),) * 4)

    def test_still_ones(self):
        talk = Talk(PATH, 0, (4, 4, 4))
        self.assertIs(talk.is_still(), True)
        self.assertEqual([talk.broken(), talk.mend((0, 1)), talk.stands], [(), (0, 1), ((4, 1),) * 3])
        talk = Talk(PATH, 0, (4, 4, 5))
        self.assertIs(talk.is_still(), False)
        self.assertEqual(talk.broken(), ((1, 2),))
        # What no mending changes is still: mended where nothing is broken it stays broken elsewhere.
        self.assertEqual(talk.mend((0, 1)), (0, 1))
        self.assertIs(talk.is_still(), False)
        self.assertEqual([talk.mend((1, 2)), talk.broken()], [(1, 2), ((0, 1),)])
        top = Talk(FILLED_TABLE, 2, (7,))
        self.assertEqual([top.is_still(), top.broken(), top.nearest()], [True, (), ((7, 1),)])
        empty = Talk(constant((), 1), 0, ())
        self.assertEqual([empty.is_still(), empty.broken(), empty.nearest(), empty.stands], [True, (), (), ()])

    def test_ranks_of_noughts(self):
        table = Table(EDGE, {(0,): 1, (1,): 0, (0, 1): 0}, {((0,), (0, 1)): (1, ()), ((1,), (0, 1)): (0, ())})
        talk = Talk(table, 0, (9,))
        self.assertEqual([talk.mend((0, 1)), talk.stands, talk.is_still()], [(0, 1), ((9, 1),), True])
        self.assertEqual(talk.deeds, ((0, 1),))
        lone = Table(EDGE, {(0,): 1, (1,): 0, (0, 1): 1}, {((0,), (0, 1)): TWO, ((1,), (0, 1)): (0, ((),))})
        talk = Talk(lone, 0, (9,))
        self.assertEqual([talk.mend((0, 1)), talk.stands, talk.nearest()], [(81, 1), ((0, 1),), ((0, 1),)])

    def test_forty_deeds(self):
        talk = Talk(constant(ROUND, 1), 0, (1, 10, -4))
        begin = talk.stands
        cells = cells_of(ROUND, 1)
        stood = []
        for count in range(40):
            stood.append(talk.stands)
            talk.mend(cells[count % 3])
        self.assertEqual([str(talk), len(talk), talk.deeds], ["40 deeds", 40, (cells * 14)[:40]])
        last = talk.stands
        self.assertEqual(refusal(self, talk.mend, ((0, 1),), TooMany).most, 40)
        # A wrong cell comes first; what is refused changes nothing.
        refusal(self, talk.mend, ((0,),), InvalidCell)
        self.assertEqual((talk.stands, len(talk)), (last, 40))
        self.assertIs(talk.is_still(), False)
        self.assertEqual(talk.nearest(), ((7, 3),) * 3)
        talk.undo()
        self.assertEqual((talk.stands, len(talk)), (stood[-1], 39))
        talk.mend((0, 1))
        refusal(self, talk.mend, ((0, 1),), TooMany)
        for count in range(40):
            talk.undo()
        self.assertEqual((talk.stands, talk.deeds, str(talk)), (begin, (), "0 deeds"))
        refusal(self, talk.undo, (), InvalidOperation)
        self.assertEqual(talk, Talk(constant(ROUND, 1), 0, (1, 10, -4)))

    def test_undoing(self):
        talk = Talk(PATH, 0, (0, 3, 0))
        refusal(self, talk.undo, (), InvalidOperation)
        talk.mend((0, 1))
        talk.mend((1, 2))
        self.assertIsNone(talk.undo())
        self.assertEqual((talk.stands, talk.deeds), (((3, 2), (3, 2), (0, 1)), ((0, 1),)))
        talk.mend((1, 2))
        self.assertEqual(talk.stands, ((3, 2), (3, 4), (3, 4)))

    def test_equal_ones(self):
        one, other = Talk(PATH, 0, (0, 3, 0)), Talk(PATH, 0, (0, 3, 0))
        self.assertTrue(one == other)
        one.mend((0, 1))
        self.assertFalse(one == other)
        other.mend((1, 2))
        self.assertTrue(one != other)
        other.undo()
        other.mend((0, 1))
        self.assertTrue(one == other)
        other.mend((0, 1))
        # The rows that stand are equal, the deeds are not.
        self.assertEqual(one.stands, other.stands)
        self.assertFalse(one == other)
        for talk in (Talk(PATH, 1, (0, 3)), Talk(PATH, 0, (0, 3, 1)), Talk(constant(ROUND, 1), 0, (0, 3, 0))):
            self.assertFalse(Talk(PATH, 0, (0, 3, 0)) == talk)
        for value in ODD:
            self.assertFalse(one == value)
            self.assertFalse(value == one)
        self.assertIn(one, [None, Talk(PATH, 0, (0, 3, 0)), one])
        self.assertRaises(TypeError, iter, one)
        self.assertEqual(str(Talk(PATH, 0, (0, 3, 0))), "0 deeds")
        self.assertEqual(str(one), "1 deeds")

    def test_state(self):
        talk, other = Talk(PATH, 0, (0, 3, 0)), Talk(PATH, 0, (0, 3, 0))
        deeds, stands = talk.deeds, talk.stands
        talk.mend((0, 1))
        self.assertEqual((deeds, stands), ((), ((0, 1), (3, 1), (0, 1))))
        self.assertEqual((other.deeds, other.stands), (deeds, stands))
        self.assertEqual(PATH, constant(space_of(((0, 1), (1, 2))), 1))
        for name in ("stands", "deeds"):
            with self.assertRaises(AttributeError):
                setattr(talk, name, ())

    def test_wrong_ones(self):
        WRONG["talk telling"] = (InvalidTelling, (
            None, True, 1, "1", [1, 2], {}, (), (1,), (1, 2, 3), (True, 0), (1, 10 ** 12), ((1, 1), (2, 1)), TWIST))
        check_wrong(self, Talk, (PATH, 1, (1, 2)), ("table", "degree 1", "talk telling"))
        self.assertEqual(refusal(self, Talk, (PATH, 2, ()), InvalidNumber).given, 2)
        self.assertEqual(refusal(self, Talk, (constant((), 1), 1, ()), InvalidNumber).given, 1)
        for wrong in WRONG_INTEGERS:
            self.assertIs(refusal(self, Talk, (PATH, wrong, None), InvalidNumber).given, wrong)
        refusal(self, Talk, (rows_of(PATH), 0, (0, 3, 0)), InvalidTable)
        talk = Talk(PATH, 0, (0, 3, 0))
        for cell in (None, True, 0, "", (), [0, 1], {}, (0,), (0, 2), (1, 0), (0, True), (False, 1), (0, 1, 2), (9,),
                     ((0, 1),), TWIST, (0, 10 ** 12)):
            refusal(self, talk.mend, (cell,), InvalidCell)
        refusal(self, Talk(PATH, 1, (1, 2)).mend, ((0, 1),), InvalidCell)
        refusal(self, nearest_made_answer, (Rows((1,), ()), ((1, 1),)), InvalidGrid)
        self.assertEqual((talk.stands, talk.deeds), (((0, 1), (3, 1), (0, 1)), ()))


FILLED_TABLE = constant(FILLED, 1)


def talk_cells(talk):
    """The cells that a talk can mend."""
    return [cell for cell in talk._table.space if len(cell) == talk._degree + 2][:20]


if __name__ == "__main__":
    unittest.main()
