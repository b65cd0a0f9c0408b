"""Integers, rows and grids [1.1] to [1.5]."""

import itertools
import math
import random
import unittest

from gluewhole.base.numbers import (
    MAX_DIGITS, MAX_SIZE, beside, dot, grid_difference, grid_multiple, grid_product, grid_sum, is_grid, is_integer,
    is_nought, is_row, led, nought_grid, over, read_by, row_difference, row_multiple, row_sum, shared, turned,
    unit_grid)
from gluewhole.errors import InvalidGrid, InvalidNumber, InvalidOperation, InvalidRow, TooMany
from tests.helper import (
    EDGE_GRIDS, ODD, WRONG_GRIDS, WRONG_ROWS, added, check_judged, check_wrong, dense, grids, moved, read, refusal,
    scaled, times, transposed, unit)

A = (2, ((1, 2), (0, 3), (-1, 0)))
MOST = 10 ** 12 - 1
WIDE = (60, ((1,) * 60,) * 60)


class Examples(unittest.TestCase):
    def test_leading(self):
        self.assertEqual(
            [led(A, (5, 7)), read_by((1, 1, 1), A), turned(A), grid_product((3, ((1, 0, 1),)), A)],
            [(19, 21, -5), (0, 5), (3, ((1, 0, -1), (2, 3, 0))), (2, ((0, 2),))])

    def test_noughts_and_units(self):
        self.assertEqual(
            [unit_grid(2), nought_grid(1, 3), nought_grid(2, 0), turned((2, ())),
             grid_product((0, ((), ())), (2, ()))],
            [(2, ((1, 0), (0, 1))), (3, ((0, 0, 0),)), (0, ((), ())), (0, ((), ())), (2, ((0, 0), (0, 0)))])

    def test_judging(self):
        self.assertEqual(
            [is_grid((2, ((1, 2), (3,)))), is_grid((0, ())), is_nought(12, 6), is_nought(12, 0), is_nought(0, 0),
             shared(12, -18)[2], shared(0, 0)[2]],
            [False, True, True, False, True, 6, 0])

    def test_putting_together(self):
        self.assertEqual(
            [beside(A, (1, ((9,), (8,), (7,)))), over((1, ((4,),)), (1, ())), dot((1, 2), (3, 4)),
             row_difference((1, 2), (3, 5))],
            [(3, ((1, 2, 9), (0, 3, 8), (-1, 0, 7))), (1, ((4,),)), 11, (-2, -3)])

    def test_one_that_raises(self):
        refusal(self, led, (A, (1, 2, 3)), InvalidOperation)


class Judges(unittest.TestCase):
    def test_constants(self):
        self.assertEqual((MAX_DIGITS, MAX_SIZE), (12, 60))

    def test_integers(self):
        check_judged(self, is_integer, (), (0, 1, -1, 2, 7, MOST, -MOST), (True, False, MOST + 1, -MOST - 1, 10 ** 13))

    def test_rows(self):
        right = ((), (0,), (0, 1), (1, 0), (MOST, -MOST), (5,) * 60)
        check_judged(self, is_row, (), right, WRONG_ROWS + ((5,) * 61, [5], (MOST + 1,), (-MOST - 1,), (1, True)))

    def test_grids(self):
        right = EDGE_GRIDS + (WIDE, (60, ()), (0, ((),) * 60), (1, ((MOST,), (-MOST,))))
        wrong = ((61, ((1,) * 61,)), (1, ((1,),) * 61), (2, ((1, 2), (3,))), (2, ((1, 2), (3, 4, 5))))
        check_judged(self, is_grid, (), right, WRONG_GRIDS + wrong)

    def test_noughts(self):
        check_judged(self, lambda value: is_nought(value, 6), (), (0, 6, -6, 600, MOST - 3), (1, 5, -1, 7, -7, MOST))
        check_judged(self, lambda value: is_nought(value, 0), (), (0,), (1, -1, MOST))
        whole = (0, 1, -1, 2, 7, MOST, -MOST)
        check_judged(self, lambda value: is_nought(value, 1), (), whole, (10 ** 12, True, False))
        check_judged(self, lambda value: is_nought(value, MOST), (), (0, MOST, -MOST), (1, MOST - 1, 2 * MOST))

    def test_modulus_of_noughts(self):
        for value in ODD:
            for modulus in (None, True, False, "0", (), -1, 10 ** 12, -10 ** 12):
                caught = refusal(self, is_nought, (value, modulus), InvalidNumber)
                self.assertIs(caught.given, modulus)


class Rows(unittest.TestCase):
    def test_sums(self):
        self.assertEqual(row_sum((1, -2, MOST), (3, 5, MOST)), (4, 3, 2 * MOST))
        self.assertEqual(row_difference((1, -2, MOST), (3, 5, -MOST)), (-2, -7, 2 * MOST))
        self.assertEqual(dot((MOST, 1, 2), (MOST, -3, 4)), MOST * MOST + 5)
        self.assertEqual(row_multiple((1, -2, MOST), -MOST), (-MOST, 2 * MOST, -MOST * MOST))
        self.assertEqual(row_multiple((3, 4), 0), (0, 0))

    def test_empty_rows(self):
        self.assertEqual([row_sum((), ()), row_difference((), ()), dot((), ()), row_multiple((), 5)], [(), (), 0, ()])

    def test_sixty_numbers(self):
        self.assertEqual(dot((2,) * 60, (3,) * 60), 360)
        self.assertEqual(row_sum((2,) * 60, (3,) * 60), (5,) * 60)

    def test_wrong_arguments(self):
        for function in (dot, row_sum, row_difference):
            check_wrong(self, function, ((1, 2), (3, 4)), ("row", "row"))
            refusal(self, function, ((1, 2), (3,)), InvalidOperation)
            refusal(self, function, ((), (3,)), InvalidOperation)
            refusal(self, function, ((1, 2), (3, 4, MOST + 1)), InvalidRow)
        check_wrong(self, row_multiple, ((1, 2), 3), ("row", "integer"))


class Shared(unittest.TestCase):
    def test_they_add_up_to_the_greatest_common_divisor(self):
        source = random.Random(4)
        pairs = [(source.randint(-MOST, MOST), source.randint(-MOST, MOST)) for _ in range(200)]
        pairs += list(itertools.product(range(-7, 8), repeat=2)) + [(MOST, MOST), (MOST, -MOST), (0, -MOST), (6, 10)]
        for one, other in pairs:
            u, v, divisor = shared(one, other)
            self.assertEqual([type(u), type(v), type(divisor)], [int, int, int])
            self.assertEqual(u * one + v * other, divisor)
            self.assertEqual(divisor, math.gcd(one, other))

    def test_wrong_arguments(self):
        check_wrong(self, shared, (4, 6), ("integer", "integer"))


class Grids(unittest.TestCase):
    def test_units_and_noughts(self):
        for size in (0, 1, 2, 7, 60):
            self.assertEqual(unit_grid(size), unit(size))
            self.assertEqual(nought_grid(size, 3), (3, ((0, 0, 0),) * size))
            self.assertEqual(nought_grid(3, size), (size, ((0,) * size,) * 3))
        self.assertEqual(nought_grid(0, 5), (5, ()))
        check_wrong(self, unit_grid, (3,), ("size",))
        check_wrong(self, nought_grid, (3, 4), ("size", "size"))

    def test_turned(self):
        for grid in EDGE_GRIDS + tuple(grids(1, 40)) + (WIDE,):
            self.assertEqual(turned(grid), transposed(grid))
            self.assertEqual(turned(turned(grid)), grid)
        check_wrong(self, turned, (A,), ("grid",))

    def test_multiples_sums_and_differences(self):
        for seed, (height, width) in enumerate(((0, 0), (0, 3), (3, 0), (1, 1), (3, 2), (60, 60))):
            one, other = dense(height, width, seed, MOST), dense(height, width, seed + 9, MOST)
            self.assertEqual(grid_sum(one, other), added(one, other))
            self.assertEqual(grid_difference(one, other), added(one, scaled(other, -1)))
            for number in (0, 1, -1, 7, MOST):
                self.assertEqual(grid_multiple(one, number), scaled(one, number))

    def test_unlike_sizes(self):
        for function in (grid_sum, grid_difference):
            check_wrong(self, function, (A, A), ("grid", "grid"))
            for other in ((2, ((1, 2), (3, 4))), (3, ((1, 2, 3),) * 3), (2, ()), turned(A)):
                refusal(self, function, (A, other), InvalidOperation)
                refusal(self, function, (other, A), InvalidOperation)
            refusal(self, function, ((1, ()), (2, ())), InvalidOperation)
        check_wrong(self, grid_multiple, (A, 3), ("grid", "integer"))

    def test_products(self):
        forms = ((0, 0, 0), (2, 0, 3), (0, 2, 3), (2, 3, 0), (3, 4, 2), (1, 60, 60))
        for seed, (height, middle, width) in enumerate(forms):
            one, other = dense(height, middle, seed, MOST), dense(middle, width, seed + 9, MOST)
            self.assertEqual(grid_product(one, other), times(one, other))
            one, other = dense(height, middle, seed), dense(middle, width, seed + 9)
            self.assertEqual(turned(grid_product(one, other)), grid_product(turned(other), turned(one)))
        self.assertEqual(grid_product(A, unit_grid(2)), A)
        self.assertEqual(grid_product(unit_grid(3), A), A)
        self.assertEqual(grid_product((0, ((),)), (0, ())), (0, ((),)))

    def test_products_of_unlike_sizes(self):
        check_wrong(self, grid_product, (A, (3, ((1, 2, 3), (4, 5, 6)))), ("grid", "grid"))
        refusal(self, grid_product, (A, A), InvalidOperation)
        refusal(self, grid_product, ((0, ()), (0, ((),))), InvalidOperation)
        refusal(self, grid_product, ((2, ()), (2, ())), InvalidOperation)

    def test_beside_and_over(self):
        self.assertEqual(beside((0, ((), ())), (1, ((3,), (4,)))), (1, ((3,), (4,))))
        self.assertEqual(beside((2, ()), (3, ())), (5, ()))
        self.assertEqual(beside((30, ()), (30, ())), (60, ()))
        self.assertEqual(over((2, ((1, 2),)), (2, ((3, 4), (5, 6)))), (2, ((1, 2), (3, 4), (5, 6))))
        self.assertEqual(over((0, ((),)), (0, ((),))), (0, ((), ())))
        self.assertEqual(over((1, ((1,),) * 59), (1, ((2,),)))[1], ((1,),) * 59 + ((2,),))

    def test_beside_and_over_of_unlike_sizes(self):
        for function in (beside, over):
            check_wrong(self, function, (A, A), ("grid", "grid"))
        refusal(self, beside, (A, (2, ((1, 2),))), InvalidOperation)
        refusal(self, beside, ((60, ()), (1, ((1,),))), InvalidOperation)
        refusal(self, over, (A, (1, ((1,),))), InvalidOperation)
        refusal(self, over, (WIDE, (1, ((1,),))), InvalidOperation)

    def test_beside_and_over_that_are_too_great(self):
        for function, one, other in (
                (beside, (60, ()), (1, ())), (beside, (31, ((1,) * 31,)), (30, ((1,) * 30,))), (beside, WIDE, WIDE),
                (over, (0, ((),) * 60), (0, ((),))), (over, (2, ((1, 2),) * 30), (2, ((1, 2),) * 31)),
                (over, WIDE, WIDE)):
            self.assertEqual(refusal(self, function, (one, other), TooMany).most, 60)


class Leading(unittest.TestCase):
    def test_leading_and_reading(self):
        for grid in EDGE_GRIDS + tuple(grids(2, 60)) + (WIDE, dense(60, 59, 3, MOST)):
            row, bar = tuple(range(-1, grid[0] - 1)), tuple(range(2, len(grid[1]) + 2))
            self.assertEqual(led(grid, row), moved(grid, row))
            self.assertEqual(read_by(bar, grid), read(bar, grid))
            if max(map(abs, moved(grid, row) + read(bar, grid)), default=0) <= MOST:
                self.assertEqual(dot(bar, led(grid, row)), dot(read_by(bar, grid), row))

    def test_empty_sizes(self):
        self.assertEqual([led((0, ((), ())), ()), led((2, ()), (1, 2)), led((0, ()), ())], [(0, 0), (), ()])
        self.assertEqual([read_by((), (2, ())), read_by((1, 2), (0, ((), ()))), read_by((), (0, ()))], [(0, 0), (), ()])

    def test_leading_by_a_product(self):
        one, other = dense(3, 4, 1), dense(4, 2, 2)
        self.assertEqual(led(grid_product(one, other), (5, 7)), led(one, led(other, (5, 7))))
        self.assertEqual(read_by((5, 7, 1), grid_product(one, other)), read_by(read_by((5, 7, 1), one), other))

    def test_wrong_arguments(self):
        check_wrong(self, led, (A, (1, 2)), ("grid", "row"))
        check_wrong(self, read_by, ((1, 2, 3), A), ("row", "grid"))
        for row in ((), (1,), (1, 2, 3)):
            refusal(self, led, (A, row), InvalidOperation)
        for row in ((), (1, 2), (1, 2, 3, 4)):
            refusal(self, read_by, (row, A), InvalidOperation)
        refusal(self, led, (A, (1, 2, True)), InvalidRow)
        refusal(self, read_by, ((1, 2), (1, ())[:1]), InvalidGrid)


class NotTrue(unittest.TestCase):
    def test_what_is_not_true(self):
        self.assertNotEqual(nought_grid(0, 1), nought_grid(0, 2))
        noughts = grid_product((2, ((0, 1), (0, 0))), (2, ((0, 1), (0, 0))))
        self.assertEqual(noughts, nought_grid(2, 2))


if __name__ == "__main__":
    unittest.main()
