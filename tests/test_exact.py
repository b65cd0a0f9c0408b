"""Sums of integers of any length, as the stages build on them."""

import random
import unittest

from gluewhole.base.exact import (
    adjugate, determinant, is_undone, plain_product, plain_turned, plain_unit, square_product, undoing)
from gluewhole.base.quotients import solved, undone_rows
from tests.helper import EDGE_GRIDS, grids, scaled, times, told_determinant, transposed, undone_pair, unit

LONG = 10 ** 30


def squares(source, most):
    """Random grids of each size up to one, as high as wide, some with long integers."""
    found = []
    for size in range(most + 1):
        for bound in (1, 2, 2, 5, LONG):
            for _ in range(12):
                rows = [tuple([source.randint(-bound, bound) for _ in range(size)]) for _ in range(size)]
                found.append((size, tuple(rows)))
    return found


class Squares(unittest.TestCase):
    def test_determinants(self):
        for _, rows in squares(random.Random(1), 5):
            self.assertEqual(determinant(rows), told_determinant(rows))

    def test_adjugates(self):
        for grid in squares(random.Random(9), 5):
            found = (grid[0], adjugate(grid[1]))
            self.assertEqual(times(grid, found), scaled(unit(grid[0]), told_determinant(grid[1])))
            self.assertEqual(times(found, grid), scaled(unit(grid[0]), told_determinant(grid[1])))

    def test_undone_ones(self):
        source, kinds = random.Random(2), []
        for grid in squares(source, 6):
            kinds.append(is_undone(grid))
            self.assertIs(kinds[-1], told_determinant(grid[1]) in (1, -1))
        self.assertGreater(min(kinds.count(True), kinds.count(False)), 40)

    def test_undoing(self):
        source = random.Random(3)
        for size in range(8):
            for many in (0, 1, 3, 8, 60):
                for _ in range(6):
                    grid, back = undone_pair(size, source, many)
                    self.assertIs(is_undone(grid), True)
                    self.assertEqual((undoing(grid), undoing(back)), (back, grid))
                    if size > 1:
                        self.assertIs(is_undone((size, scaled(grid, 2)[1][:1] + grid[1][1:])), False)

    def test_products(self):
        source = random.Random(4)
        for one in squares(source, 4):
            other = source.choice([grid for grid in squares(source, 4) if grid[0] == one[0]])
            self.assertEqual(square_product(one, other), times(one, other))
            self.assertEqual(plain_product(one, other), times(one, other))

    def test_turned_and_unit_ones(self):
        for grid in list(EDGE_GRIDS) + grids(5, 60):
            self.assertEqual(plain_turned(grid), transposed(grid))
            self.assertEqual(plain_product(plain_unit(len(grid[1])), grid), grid)
            self.assertEqual(plain_product(grid, plain_unit(grid[0])), grid)
        for size in range(7):
            self.assertEqual(plain_unit(size), unit(size))


class Solved(unittest.TestCase):
    def test_solved_ones(self):
        source, kinds = random.Random(6), []
        for grid in list(EDGE_GRIDS) + grids(7, 80, 4, 3):
            for many in (0, 1, 3):
                rows = [tuple([source.randint(-3, 3) for _ in range(many)]) for _ in grid[1]]
                for wanted in ((many, tuple(rows)), times(grid, (2, ((1, 5),) * grid[0]))):
                    found = solved(grid, wanted)
                    kinds.append(found is None)
                    if found is not None:
                        self.assertGreater(found[0], 0)
                        self.assertEqual(times(grid, found[1]), scaled(wanted, found[0]))
        self.assertGreater(min(kinds.count(True), kinds.count(False)), 20)

    def test_undone_rows(self):
        source, kinds = random.Random(8), []
        for many in range(7):
            for width in range(9):
                for bound in (1, 1, 2, 5, LONG):
                    rows = tuple([tuple([source.randint(-bound, bound) for _ in range(width)]) for _ in range(many)])
                    found = undone_rows(list(rows), width)
                    told = solved((width, rows), unit(many))
                    self.assertEqual(found, told)
                    kinds.append(found is None)
                    if found is not None:
                        self.assertGreater(found[0], 0)
                        self.assertEqual(times((width, rows), found[1]), scaled(unit(many), found[0]))
        self.assertGreater(min(kinds.count(True), kinds.count(False)), 60)


if __name__ == "__main__":
    unittest.main()
