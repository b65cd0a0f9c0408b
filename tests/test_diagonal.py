"""Grids made diagonal [2.1] to [2.5]."""

import itertools
import math
import unittest

from gluewhole.base.diagonal import (
    alike_answer, divisors, divisors_answer, kernel_number, rank, undone_answer)
from gluewhole.errors import InvalidGrid, InvalidNumber, InvalidOperation
from tests.helper import (
    EDGE_GRIDS, are_divisors, check_wrong, dense, diagonal_grid, grids, holds, moved, refusal, scaled, times,
    transposed, unit)

A, TURN = (3, ((3, 1, 2), (1, 3, 2), (2, 2, 8))), (2, ((1, 2), (0, 1)))
MOST = 10 ** 12 - 1


def determinant(rows):
    """The determinant of a few rows, by the first one."""
    if not rows:
        return 1
    below = [[row[:at] + row[at + 1:] for row in rows[1:]] for at in range(len(rows))]
    return sum([(-1) ** at * rows[0][at] * determinant(below[at]) for at in range(len(rows))])


def told_divisors(grid):
    """The divisors, by the greatest common divisors of the determinants of each size."""
    found, last = [], 1
    for size in range(1, min(grid[0], len(grid[1])) + 1):
        common = 0
        for rows in itertools.combinations(grid[1], size):
            for places in itertools.combinations(range(grid[0]), size):
                common = math.gcd(common, determinant([tuple([row[at] for at in places]) for row in rows]))
        if common == 0:
            break
        found.append(common // last)
        last = common
    return tuple(found)


def told_kernel_number(grid, m):
    """The number of the rows that come to noughts modulo m, counted one by one."""
    rows = itertools.product(range(m), repeat=grid[0])
    return len([row for row in rows if all([number % m == 0 for number in moved(grid, row)])])


def undone_pair(size, seed):
    """An undone grid, made of random exchanges of rows, with small numbers."""
    rows = [list(row) for row in unit(size)[1]]
    for place in range(3 * size):
        one, other = (seed + 5 * place) % size, (seed * 7 + 3 * place + 1) % size
        if one != other:
            rows[one] = [a + (-1) ** place * b for a, b in zip(rows[one], rows[other])]
    return size, tuple([tuple(row) for row in rows])


class Examples(unittest.TestCase):
    def test_divisors(self):
        self.assertEqual(
            [divisors(A), rank(A), kernel_number(A, 2), kernel_number(A, 6), divisors((2, ((2, 4),))),
             divisors((0, ((), ())))],
            [(1, 4, 12), 3, 4, 12, (2,), ()])

    def test_undone(self):
        self.assertEqual(
            [undone_answer(TURN), undone_answer((1, ((2,),)))[0], undone_answer((0, ()))[1]],
            [(('undone', (2, ((1, 2), (0, 1)))), (2, ((1, -2), (0, 1)))), ('not undone', (1, ((2,),))), (0, ())])

    def test_alike(self):
        self.assertEqual(
            [divisors_answer(A)[0][2], alike_answer((2, ((2, 0), (0, 3))), (2, ((1, 0), (0, 6))))[0][0],
             alike_answer((1, ((2,),)), (1, ((4,),)))[0][0], alike_answer((0, ()), (1, ()))],
            [(1, 4, 12), 'alike', 'unlike', (('unlike', (0, ()), (1, ())), ())])

    def test_one_that_raises(self):
        refusal(self, undone_answer, ((1, ()),), InvalidOperation)


class Divisors(unittest.TestCase):
    def check(self, grid):
        found = divisors(grid)
        claim, paper = divisors_answer(grid)
        self.assertEqual(claim, ("divisors", grid, found))
        self.assertTrue(holds(claim, paper), grid)
        self.assertEqual(rank(grid), len(found))
        return found

    def test_they_are_those_of_the_determinants(self):
        for grid in EDGE_GRIDS + tuple(grids(11, 150, 4)):
            self.assertEqual(self.check(grid), told_divisors(grid))

    def test_papers_of_all_forms(self):
        for grid in tuple(grids(12, 60, 9, 40)):
            self.assertTrue(are_divisors(self.check(grid), min(grid[0], len(grid[1]))))

    def test_numbers_on_a_diagonal(self):
        self.assertEqual(self.check(diagonal_grid((4, 6, 9, 10), 5, 4)), (1, 2, 6, 180))
        self.assertEqual(self.check(diagonal_grid((12, 6, 2, 1), 4, 6)), (1, 2, 6, 12))
        self.assertEqual(self.check(diagonal_grid((2, 3, 5, 7, 11, 13, 17, 19, 23), 9, 9)), (1,) * 8 + (223092870,))
        self.assertEqual(self.check(diagonal_grid((0, -3, 0, 2), 4, 4)), (1, 6))
        self.assertEqual(self.check(diagonal_grid((-2, 2, -2), 3, 3)), (2, 2, 2))

    def test_sixty(self):
        noughts = (60, ((0,) * 60,) * 60)
        self.assertEqual(self.check(noughts), ())
        self.assertEqual(self.check(unit(60)), (1,) * 60)
        self.assertEqual(self.check(scaled(unit(60), MOST)), (MOST,) * 60)
        self.assertEqual(self.check((60, ())), ())
        self.assertEqual(self.check((0, ((),) * 60)), ())
        self.assertEqual(self.check(diagonal_grid(tuple(range(1, 61)), 60, 60))[:3], (1, 1, 1))
        told = scaled(times(dense(60, 5, 1), dense(5, 60, 2)), 6)
        self.assertEqual(len(self.check(told)), 5)
        self.assertEqual(self.check(told)[0] % 6, 0)

    def test_sixty_with_twelve_digits(self):
        for height, width in ((60, 60), (60, 31), (29, 60)):
            found = self.check(dense(height, width, height, MOST))
            self.assertEqual(len(found), min(height, width))

    def test_wrong_arguments(self):
        for function in (divisors, rank, divisors_answer):
            check_wrong(self, function, (A,), ("grid",))


class KernelNumber(unittest.TestCase):
    def test_it_counts(self):
        for grid in EDGE_GRIDS + tuple(grids(13, 60, 4)):
            for m in (1, 2, 3, 4, 6):
                if m ** grid[0] < 300:
                    self.assertEqual(kernel_number(grid, m), told_kernel_number(grid, m), (grid, m))

    def test_great_numbers(self):
        self.assertEqual(kernel_number((60, ()), MOST), MOST ** 60)
        self.assertEqual(kernel_number((1, ((MOST,),)), MOST), MOST)
        self.assertEqual(kernel_number((2, ((MOST, 0), (0, 3))), MOST), 3 * MOST)

    def test_wrong_arguments(self):
        check_wrong(self, kernel_number, (A, 2), ("grid", "from 1"))
        refusal(self, kernel_number, ((61, ()), 0), InvalidGrid)
        self.assertEqual(refusal(self, kernel_number, (A, 0), InvalidNumber).given, 0)


class Undone(unittest.TestCase):
    def check(self, grid):
        claim, paper = undone_answer(grid)
        self.assertEqual(claim[1:], (grid,))
        self.assertTrue(holds(claim, paper), grid)
        self.assertEqual(claim[0] == "undone", divisors(grid) == (1,) * grid[0])
        return claim[0]

    def test_all_forms(self):
        for grid in EDGE_GRIDS + tuple(grids(14, 200, 4)):
            if grid[0] == len(grid[1]):
                self.check(grid)

    def test_undone_ones(self):
        for size in (0, 1, 2, 3, 5, 9, 20):
            grid = undone_pair(size, size + 1)
            self.assertEqual(self.check(grid), "undone")
            self.assertEqual(self.check(transposed(grid)), "undone")
            if size:
                self.assertEqual(self.check(scaled(grid, -1)), "undone")
                self.assertEqual(self.check(scaled(grid, 3)), "not undone")
                self.assertEqual(self.check((size, grid[1][:-1] + ((0,) * size,))), "not undone")

    def test_ranks_below_the_size(self):
        for grid in ((2, ((1, 1), (1, 1))), (2, ((0, 1), (0, 0))), (2, ((0, 0), (1, 0))), (3, ((1, 2, 3),) * 3)):
            claim, paper = undone_answer(grid)
            self.assertEqual(claim[0], "not undone")
            self.assertTrue(holds(claim, paper))

    def test_sixty(self):
        self.assertEqual(self.check(unit(60)), "undone")
        self.assertEqual(self.check((60, ((0,) * 60,) * 60)), "not undone")
        self.assertEqual(self.check(scaled(unit(60), 2)), "not undone")
        self.assertEqual(self.check(dense(60, 60, 3, MOST)), "not undone")
        self.assertEqual(self.check(undone_pair(60, 11)), "undone")

    def test_wrong_arguments(self):
        check_wrong(self, undone_answer, (TURN,), ("grid",))
        for grid in ((1, ()), (0, ((),)), (2, ((1, 2),)), (1, ((1,), (2,)))):
            refusal(self, undone_answer, (grid,), InvalidOperation)


class Alike(unittest.TestCase):
    def check(self, one, other):
        claim, paper = alike_answer(one, other)
        self.assertEqual(claim[1:], (one, other))
        self.assertTrue(holds(claim, paper), (one, other))
        same = one[0] == other[0] and len(one[1]) == len(other[1]) and divisors(one) == divisors(other)
        self.assertEqual(claim[0], "alike" if same else "unlike")
        return claim[0]

    def test_led_by_undone_grids(self):
        for height, width in ((0, 0), (0, 3), (3, 0), (1, 1), (2, 3), (4, 4), (6, 5)):
            one = dense(height, width, 5)
            other = times(times(undone_pair(height, 3), one), undone_pair(width, 4))
            self.assertEqual(self.check(one, other), "alike")
            self.assertEqual(self.check(one, one), "alike")

    def test_numbers_on_a_diagonal(self):
        self.assertEqual(self.check(diagonal_grid((4, 6), 2, 3), diagonal_grid((12, 2), 2, 3)), "alike")
        self.assertEqual(self.check(diagonal_grid((4, 6), 2, 3), diagonal_grid((24, 1), 2, 3)), "unlike")
        self.assertEqual(self.check(diagonal_grid((2, 0), 2, 2), diagonal_grid((2, 2), 2, 2)), "unlike")

    def test_unlike_sizes(self):
        for one, other in (((2, ((1, 0),)), (1, ((1,), (0,)))), ((0, ()), (0, ((),))), ((3, ()), (2, ()))):
            self.assertEqual(alike_answer(one, other), (("unlike", one, other), ()))

    def test_random_pairs(self):
        found = grids(15, 40, 3)
        for one, other in zip(found, found[1:]):
            self.check(one, other)

    def test_sixty(self):
        self.assertEqual(self.check(unit(60), undone_pair(60, 7)), "alike")
        self.assertEqual(self.check((60, ((0,) * 60,) * 60), unit(60)), "unlike")

    def test_wrong_arguments(self):
        check_wrong(self, alike_answer, (A, TURN), ("grid", "grid"))


class NotTrue(unittest.TestCase):
    def test_what_is_not_true(self):
        one, other = diagonal_grid((1, 2), 2, 2), diagonal_grid((1, 4), 2, 2)
        for prime in (2, 3, 5):
            self.assertEqual(kernel_number(one, prime), kernel_number(other, prime))
        self.assertEqual(alike_answer(one, other)[0][0], "unlike")
        self.assertEqual(divisors(one), (1, 2))
        left, right = diagonal_grid((1, 2), 2, 2), diagonal_grid((2, 1), 2, 2)
        self.assertEqual(divisors(times(left, right)), (2, 2))


if __name__ == "__main__":
    unittest.main()
