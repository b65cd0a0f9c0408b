"""False points: seats and lots, held, safe and near ones [17.1] to [17.6]."""

import itertools
import math
import random
import unittest

from gluewhole.errors import InvalidNumber, InvalidOperation, InvalidTable, InvalidTelling, TooMany
from gluewhole.near.false import differing, held_answer, least_lot, near_answer, safe_answer, seats
from gluewhole.space.spaces import space_of
from gluewhole.tables.tables import Table, constant, on_star, outside, table_sum
from gluewhole.tables.tellings import is_still, rise_grid
from gluewhole.tables.wholes import whole_base
from tests.helper import (
    EDGE, FILLED, ONE, ROUND, TWIST, TWO, WRONG, WRONG_INTEGERS, WRONG_ROWS, all_lots, check_wrong, closed, holds,
    lot_columns, moved, random_tables, refusal, scaled, some_row, unlike_seats, weighted)

PATH = constant(space_of(((0, 1), (1, 2), (2, 3), (3, 4))), 1)
EMPTY = constant((), 1)
# The first and the last of three points have the rank 0.
GAP = Table(((0,), (1,), (2,), (0, 1), (1, 2)), {(0,): 0, (1,): 2, (2,): 0, (0, 1): 0, (1, 2): 1}, {
    ((0,), (0, 1)): (0, ()), ((1,), (0, 1)): (2, ()), ((1,), (1, 2)): (2, ((1, -1),)), ((2,), (1, 2)): (0, ((),))})
# Points with ranks 2 and 1, some of them seen by no cell.
MIXED = table_sum(constant(closed([(0, 1), (1, 2), (4,)]), 1), on_star(closed([(0, 1), (1, 2), (4,)]), (2,), 1))
TABLES = [PATH, EMPTY, GAP, MIXED, TWIST, constant(ROUND, 2), constant(FILLED, 1), constant(ROUND, 0)]
TABLES += [table for table in random_tables(170, 40, 6) if sum(len(cell) == 1 for cell in table.space) < 8]


def point_sizes(table):
    """The ranks of the points."""
    return tuple([table.ranks[cell] for cell in table.space if len(cell) == 1])


def line(points, tail=0):
    """The constant table of rank 1 on a row of points, and further points by themselves."""
    return constant(closed([(at, at + 1) for at in range(points - 1)] + [(points + at,) for at in range(tail)]), 1)


def apart(points, rank=1):
    """A table on points alone."""
    return constant(tuple([(at,) for at in range(points)]), rank)


def members(table, *more):
    """The members of a claim about the table."""
    return (point_sizes(table), rise_grid(table, 0)) + more


def lives(table, lot):
    """Whether some whole other than 0 lives on the lot: its columns have a lower rank than numbers."""
    columns = lot_columns(*members(table), lot)
    return rank_of(columns) < columns[0]


def rank_of(grid):
    """The rank, modulo a great prime; these grids are so small that no determinant of theirs is a multiple of it."""
    prime, rows, found = 2 ** 127 - 1, [list(row) for row in grid[1]], 0
    for at in range(grid[0]):
        pivot = [row for row in rows if row[at] % prime]
        if pivot:
            found += 1
            rows.remove(pivot[0])
            back = pow(pivot[0][at], -1, prime)
            rows = [[(a - row[at] * back * b) % prime for a, b in zip(row, pivot[0])] for row in rows]
    return found


def some_whole(table, source):
    """A random sum of wholes."""
    row = (0,) * sum(point_sizes(table))
    for whole in whole_base(table):
        number = source.randint(-3, 3)
        row = tuple([a + number * b for a, b in zip(row, whole)])
    return row


class Examples(unittest.TestCase):
    def test_lots(self):
        self.assertEqual(
            [seats(PATH), least_lot(PATH), held_answer(PATH, (0, 1))[0][0], held_answer(PATH, (0, 1, 2, 3, 4))[0][0]],
            [(0, 1, 2, 3, 4), (0, 1, 2, 3, 4), "held", "loose"])

    def test_answers(self):
        grid = (5, ((-1, 1, 0, 0, 0), (0, -1, 1, 0, 0), (0, 0, -1, 1, 0), (0, 0, 0, -1, 1)))
        self.assertEqual(
            [safe_answer(PATH, 2)[0][0], safe_answer(PATH, 3)[0][0], near_answer(PATH, (7, 9, 7, 7, 9), 2),
             near_answer(PATH, (7, 9, 7, 9, 8), 2)[0][0]],
            ["safe", "confused", (("near", (1, 1, 1, 1, 1), grid, (7, 9, 7, 7, 9), 2), (7, 7, 7, 7, 7)), "far"])

    def test_differing(self):
        self.assertEqual(differing(PATH, (7, 9, 7, 7, 9), (7, 7, 7, 7, 7)), (1, 4))

    def test_one_that_raises(self):
        self.assertEqual(refusal(self, safe_answer, (PATH, -1), InvalidNumber).given, -1)


class Seats(unittest.TestCase):
    def test_seats(self):
        for table in TABLES:
            self.assertEqual(seats(table), tuple([at for at, size in enumerate(point_sizes(table)) if size]))
        self.assertEqual([seats(EMPTY), seats(GAP), seats(MIXED)], [(), (1,), (0, 1, 2, 3)])
        self.assertEqual(seats(constant(ROUND, 0)), ())
        check_wrong(self, seats, (PATH,), ("table",))

    def test_differing(self):
        source = random.Random(1)
        for table in TABLES:
            size = sum(point_sizes(table))
            for _ in range(4):
                one = some_row(size, source, 1)
                other = tuple([number if source.random() < 0.6 else source.randint(-1, 1) for number in one])
                self.assertEqual(differing(table, one, other), unlike_seats(point_sizes(table), one, other))
                self.assertEqual(differing(table, one, one), ())
        self.assertEqual(differing(MIXED, (1, 2, 3, 4, 5), (1, 2, 3, 9, 5)), (2,))
        self.assertEqual([differing(EMPTY, (), ()), differing(GAP, (1, 2), (1, 3))], [(), (1,)])
        WRONG["path telling"] = (InvalidTelling, WRONG_ROWS + ((), (1,) * 4, (1,) * 6, [1] * 5, (True,) * 5))
        check_wrong(self, differing, (PATH, (1,) * 5, (2,) * 5), ("table", "path telling", "path telling"))


class Held(unittest.TestCase):
    def test_both_sides(self):
        kinds = []
        for table in TABLES:
            told = seats(table)
            for n in range(len(told) + 1):
                for lot in itertools.combinations(told, n):
                    claim, paper = held_answer(table, lot)
                    kinds.append(claim[0])
                    self.assertEqual(claim[1:], members(table, lot))
                    self.assertEqual(claim[0] == "loose", lives(table, lot))
                    self.assertTrue(holds(claim, paper), (claim, paper))
        self.assertGreater(min(kinds.count("held"), kinds.count("loose")), 100)

    def test_edges(self):
        for table in TABLES:
            claim, paper = held_answer(table, ())
            self.assertEqual((claim[0], paper[1]), ("held", (len(rise_grid(table, 0)[1]), ())))
        self.assertEqual(held_answer(EMPTY, ())[0], ("held", (), (0, ()), ()))
        self.assertEqual(held_answer(GAP, (1,))[0][0], "loose")
        # No whole but 0 at all.
        self.assertEqual(held_answer(TWIST, (0, 1, 2))[0][0], "held")
        self.assertNotEqual(held_answer(TWIST, (0, 1, 2))[1][0], 0)

    def test_wrong_ones(self):
        WRONG["lot"] = (InvalidOperation, (
            None, True, 0, "", [], [0], {}, {0: 0}, (5,), (-1,), (0, 0), (1, 0), (0, True), (False,), (None,), ("0",),
            ((0,),), (0, 1, 2, 3, 4, 5), (10 ** 12,), TWIST, (TWIST,)))
        check_wrong(self, held_answer, (PATH, (0, 1)), ("table", "lot"))
        # An index of a size 0 is no seat.
        for lot in ((0,), (1, 2), (2,), (0, 1, 2)):
            refusal(self, held_answer, (GAP, lot), InvalidOperation)
        refusal(self, held_answer, (EMPTY, (0,)), InvalidOperation)


class Safe(unittest.TestCase):
    def test_both_sides(self):
        kinds = []
        for table in TABLES:
            for k in range(len(seats(table)) + 2):
                claim, paper = safe_answer(table, k)
                kinds.append(claim[0])
                self.assertEqual(claim[1:], members(table, k))
                self.assertEqual(claim[0] == "safe", not any([lives(table, lot) for lot in all_lots(claim[1], 2 * k)]))
                self.assertTrue(holds(claim, paper), claim)
        self.assertGreater(min(kinds.count("safe"), kinds.count("confused")), 30)

    def test_edges(self):
        for table in TABLES:
            claim, paper = safe_answer(table, 0)
            self.assertEqual((claim[0], len(paper)), ("safe", 1))
            for k in (1, 79, 80):
                claim, paper = safe_answer(table, k)
                self.assertEqual(claim[3], k)
                self.assertTrue(holds(claim, paper))
            # More seats than there are: the one lot with all; so just 0 can be safe.
            self.assertEqual(claim[0] == "safe", not whole_base(table))
            self.assertTrue(claim[0] == "confused" or len(paper) == 1)

    def test_told_from_what_comes(self):
        # Wholes of a safe table are told from all that differs from them at k seats at most [17.3], [17.4].
        source, found = random.Random(2), 0
        for table in TABLES + [line(6), constant(closed([(0, 1), (1, 2), (0, 3), (2, 3)]), 2)]:
            told = seats(table)
            for k in range(1, 3):
                safe = safe_answer(table, k)[0][0] == "safe"
                for _ in range(4):
                    whole = some_whole(table, source)
                    row, begin = [], 0
                    turned = source.sample(told, min(k, len(told)))
                    for at, size in enumerate(point_sizes(table)):
                        part = whole[begin:begin + size]
                        row.extend([number + source.randint(-2, 2) for number in part] if at in turned else part)
                        begin += size
                    claim, paper = near_answer(table, tuple(row), k)
                    self.assertEqual(claim[0], "near")
                    self.assertTrue(holds(claim, paper))
                    if safe:
                        self.assertEqual(paper, whole)
                        found += 1
        self.assertGreater(found, 40)

    def test_many_lots(self):
        # 16 seats have 1,820 lots of four; 17 have 2,380.
        claim, papers = safe_answer(line(16), 2)
        self.assertEqual((claim[0], len(papers)), ("safe", 1820))
        self.assertTrue(holds(claim, papers))
        self.assertEqual(refusal(self, safe_answer, (line(17), 2), TooMany).most, 2000)
        # 30 seats have 435 lots of two, and one lot of all.
        self.assertEqual(safe_answer(line(30), 1)[0][0], "safe")
        self.assertEqual(safe_answer(line(30), 15)[0][0], "confused")
        self.assertEqual(safe_answer(line(30), 80)[0][0], "confused")
        for k in (2, 13):
            self.assertEqual(refusal(self, safe_answer, (line(30), k), TooMany).most, 2000)
        self.assertEqual(safe_answer(line(30), 14)[0][0], "safe")
        # Too many lots are too many, though the first one would tell.
        self.assertEqual(refusal(self, safe_answer, (apart(30), 2), TooMany).most, 2000)

    def test_wrong_ones(self):
        WRONG["k"] = (InvalidNumber, WRONG_INTEGERS + (-1, 81))
        check_wrong(self, safe_answer, (PATH, 1), ("table", "k"))
        refusal(self, safe_answer, (line(30), 81), InvalidNumber)


class Near(unittest.TestCase):
    def test_both_sides(self):
        source, kinds = random.Random(3), []
        for table in TABLES:
            size = sum(point_sizes(table))
            for k in range(min(4, len(seats(table)) + 2)):
                for row in (some_row(size, source, 2), some_whole(table, source), (0,) * size):
                    claim, paper = near_answer(table, row, k)
                    kinds.append(claim[0])
                    self.assertEqual(claim[1:], members(table, row, k))
                    self.assertTrue(holds(claim, paper), claim)
                    if is_still(table, 0, row):
                        self.assertEqual(claim[0], "near")
        self.assertGreater(min(kinds.count("near"), kinds.count("far")), 40)

    def test_brute_ones(self):
        # Of tables with few small wholes: the wholes are gone through.
        source = random.Random(4)
        doubled = weighted(closed([(0, 1), (1, 2), (3,)]), source, (1, 2))
        for table in [PATH, TWIST, GAP, MIXED, constant(ROUND, 1), doubled]:
            size, base = sum(point_sizes(table)), whole_base(table)
            wholes = [
                tuple([sum([c * whole[at] for c, whole in zip(numbers, base)]) for at in range(size)])
                for numbers in itertools.product(range(-9, 10), repeat=len(base))]
            for _ in range(12):
                row = some_row(size, source, 1)
                for k in range(3):
                    near = any([len(differing(table, row, whole)) <= k for whole in wholes])
                    self.assertEqual(near_answer(table, row, k)[0][0] == "near", near, (table, row, k))

    def test_readings_modulo_and_free(self):
        # The rise 1 is no double: far by a reading modulo 2, near when a point more may be false.
        double = Table(EDGE, {cell: 1 for cell in EDGE}, {((0,), (0, 1)): TWO, ((1,), (0, 1)): TWO})
        claim, paper = near_answer(double, (1, 0), 0)
        self.assertEqual(claim[0], "far")
        mixed = Table(EDGE, {cell: 1 for cell in EDGE}, {((0,), (0, 1)): ONE, ((1,), (0, 1)): TWO})
        claim, paper = near_answer(mixed, (1, 0), 1)
        self.assertEqual((claim[0], paper), ("near", (0, 0)))
        half = table_sum(mixed, double)
        for k in range(3):
            self.assertTrue(holds(*near_answer(half, (1, 1, 0, 0), k)))

    def test_edges(self):
        self.assertEqual(near_answer(EMPTY, (), 80), (("near", (), (0, ()), (), 80), ()))
        self.assertEqual(near_answer(PATH, (1, 2, 3, 4, 5), 0)[0][0], "far")
        self.assertEqual(near_answer(PATH, (4,) * 5, 0)[1], (4,) * 5)
        for k in (5, 6, 79, 80):
            self.assertEqual(near_answer(PATH, (1, 2, 3, 4, 5), k)[0][0], "near")
        # With no whole but 0 what is near lives on few seats.
        self.assertEqual([near_answer(TWIST, (1, 0, 1), k)[0][0] for k in range(4)], ["far", "far", "near", "near"])
        self.assertEqual(near_answer(TWIST, (1, 0, 1), 2)[1], (0, 0, 0))
        big = 10 ** 12 - 1
        self.assertEqual(near_answer(PATH, (big, -big, big, big, 0), 2)[1], (big,) * 5)

    def test_many_lots(self):
        claim, papers = near_answer(line(16), tuple(range(16)), 4)
        self.assertEqual((claim[0], len(papers)), ("far", 1820))
        self.assertTrue(holds(claim, papers))
        claim, papers = near_answer(line(13), tuple(range(13)), 6)
        self.assertEqual((claim[0], len(papers)), ("far", 1716))
        self.assertEqual(math.comb(30, 3), 4060)
        for table, k in ((line(30), 3), (line(30), 27), (line(17), 4), (apart(30), 3)):
            row = (0,) * sum(point_sizes(table))
            self.assertEqual(refusal(self, near_answer, (table, row, k), TooMany).most, 2000)
        for k in (0, 1, 2, 28, 29, 30, 31):
            self.assertEqual(near_answer(line(30), (1,) * 29 + (2,), k)[0][0], "far" if k == 0 else "near")
        # Two lots of more seats than needed are no lots that are looked through.
        self.assertEqual(near_answer(line(17), (3,) * 17, 3)[1], (3,) * 17)

    def test_wrong_ones(self):
        WRONG["k"] = (InvalidNumber, WRONG_INTEGERS + (-1, 81))
        WRONG["path telling"] = (InvalidTelling, WRONG_ROWS + ((), (1,) * 4, (1,) * 6, [1] * 5, (True,) * 5))
        check_wrong(self, near_answer, (PATH, (1,) * 5, 1), ("table", "path telling", "k"))
        refusal(self, near_answer, (line(30), (1,) * 29, 3), InvalidTelling)
        refusal(self, near_answer, (line(30), (1,) * 30, 81), InvalidNumber)


class Least(unittest.TestCase):
    def test_first_of_fewest(self):
        kinds = []
        for table in TABLES + [line(2, 2), line(3, 1), apart(3), constant(closed([(0, 1), (2, 3)]), 1)]:
            told = seats(table)
            lots = [lot for n in range(1, len(told) + 1) for lot in itertools.combinations(told, n)]
            lots = [lot for lot in lots if lives(table, lot)]
            least = least_lot(table)
            kinds.append(least is None)
            self.assertEqual(least, lots[0] if lots else None)
            # [17.5]: safe exactly if there is none, or one of more than 2 k seats.
            for k in range(4):
                self.assertEqual(safe_answer(table, k)[0][0] == "safe", least is None or len(least) > 2 * k)
        self.assertGreater(min(kinds.count(True), kinds.count(False)), 5)
        self.assertEqual([least_lot(line(3, 1)), least_lot(constant(closed([(0, 1), (2, 3)]), 1))], [(3,), (0, 1)])
        self.assertEqual([least_lot(EMPTY), least_lot(GAP), least_lot(TWIST)], [None, (1,), None])
        self.assertEqual(least_lot(outside(PATH, ((0,),))), None)

    def test_many_lots(self):
        self.assertEqual(least_lot(line(13)), tuple(range(13)))
        # The lots are looked through up to the first one: 14 seats have 2,002 lots of five.
        self.assertEqual(refusal(self, least_lot, (line(14),), TooMany).most, 2000)
        self.assertEqual(refusal(self, least_lot, (line(30),), TooMany).most, 2000)
        self.assertEqual(least_lot(line(29, 1)), (29,))
        self.assertEqual(least_lot(apart(30)), (0,))
        pairs = constant(closed([(2 * at, 2 * at + 1) for at in range(15)]), 1)
        self.assertEqual(least_lot(pairs), (0, 1))
        self.assertEqual(least_lot(apart(7, 4)), (0,))

    def test_wrong_ones(self):
        check_wrong(self, least_lot, (PATH,), ("table",))
        refusal(self, least_lot, (ROUND,), InvalidTable)


class Untrue(unittest.TestCase):
    def test_what_is_not_true(self):
        # [17.6]: a false point need break no cell at it; most points need not be right.
        lone = line(2, 1)
        self.assertTrue(is_still(lone, 0, (3, 3, 9)))
        weights = Table(EDGE, {cell: 1 for cell in EDGE}, {((0,), (0, 1)): TWO, ((1,), (0, 1)): ONE})
        self.assertEqual(least_lot(weights), (0, 1))
        self.assertEqual(moved(scaled(rise_grid(weights, 0), 1), (1, 2)), (0,))


if __name__ == "__main__":
    unittest.main()
