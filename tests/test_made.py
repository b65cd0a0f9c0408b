"""What is made and what is barred, lots and kernels [3.1] to [3.5]."""

import itertools
import random
import unittest

from gluewhole.base.diagonal import rank
from gluewhole.base.made import (
    coordinates, kernel, kernel_answer, lots_answer, made_answer, made_modulo_answer, stairs)
from gluewhole.errors import InvalidGrid, InvalidNumber, InvalidOperation, InvalidRow
from tests.helper import (
    EDGE_GRIDS, WRONG_GRIDS, WRONG_ROWS, check_wrong, dense, diagonal_grid, grids, holds, moved, refusal, scaled,
    times, transposed, unit)

TWO, PAIR = (2, ((2, 0), (0, 3))), (3, ((1, 1, 0), (0, 2, 2)))
MOST = 10 ** 12 - 1
LONG = 10 ** 40


def are_stairs(grid):
    """Whether the rows are stairs, place by place."""
    last = -1
    for place, row in enumerate(grid[1]):
        leads = [at for at, number in enumerate(row) if number != 0]
        if not leads or leads[0] <= last or row[leads[0]] < 0:
            return False
        last = leads[0]
        if not all([0 <= above[last] < row[last] for above in grid[1][:place]]):
            return False
    return True


def some_rows(length, seed, many=4, most=9):
    """A few random rows."""
    source = random.Random(seed)
    return [tuple([source.randint(-most, most) for _ in range(length)]) for _ in range(many)]


class Examples(unittest.TestCase):
    def test_made_and_barred(self):
        self.assertEqual(
            [made_answer(TWO, (4, -3)), made_answer(TWO, (1, 0))[0][0], made_modulo_answer(TWO, (1, 1), 5)[0],
             made_modulo_answer((1, ((2,),)), (1,), 4)[0][0]],
            [(('made', (2, ((2, 0), (0, 3))), (4, -3)), (2, -1)), 'barred',
             ('made modulo', (2, ((2, 0), (0, 3))), (1, 1), 5), 'barred modulo'])

    def test_stairs(self):
        self.assertEqual(
            [stairs((2, ((4, 1), (6, 0)))), stairs((2, ((0, 0),))),
             lots_answer((1, ((4,), (6,))), (1, ((2,),)))[0][0], lots_answer((1, ((4,),)), (1, ((2,),)))[0][0]],
            [(2, ((2, 2), (0, 3))), (2, ()), 'same lot', 'unlike lots'])

    def test_kernels(self):
        self.assertEqual(
            [kernel(PAIR), coordinates(kernel(PAIR), (-3, 3, -3)), coordinates((1, ((2,), (0,))), (3, 0)),
             kernel((0, ((),))), kernel((2, ()))],
            [(1, ((1,), (-1,), (1,))), (-3,), None, (0, ()), (2, ((1, 0), (0, 1)))])

    def test_one_that_raises(self):
        refusal(self, coordinates, ((1, ((-1,),)), (1,)), InvalidGrid)


class Made(unittest.TestCase):
    def check(self, grid, row):
        claim, paper = made_answer(grid, row)
        self.assertIn(claim[0], ("made", "barred"))
        self.assertEqual(claim[1:], (grid, row))
        self.assertTrue(holds(claim, paper), (grid, row))
        return claim[0]

    def test_what_is_led_to_is_made(self):
        for seed, grid in enumerate(EDGE_GRIDS + tuple(grids(21, 120))):
            if grid[0] == 0 or max([abs(item) for row in grid[1] for item in row], default=0) < 1000:
                for row in some_rows(grid[0], seed):
                    self.assertEqual(self.check(grid, moved(grid, row)), "made")

    def test_any_row(self):
        kinds = {}
        for seed, grid in enumerate(EDGE_GRIDS + tuple(grids(22, 150))):
            for row in some_rows(len(grid[1]), seed) + [(0,) * len(grid[1])]:
                kinds[self.check(grid, row)] = True
        self.assertEqual(sorted(kinds), ["barred", "made"])

    def test_by_counting(self):
        for grid in grids(23, 60, 2, 3):
            rows = itertools.product(range(-12, 13), repeat=grid[0])
            made = {moved(grid, row) for row in rows}
            for row in itertools.product(range(-2, 3), repeat=len(grid[1])):
                if row in made:
                    self.assertEqual(self.check(grid, row), "made")
                else:
                    self.check(grid, row)

    def test_bars_of_both_kinds(self):
        self.assertEqual(made_answer((1, ((2,), (0,))), (0, 1))[1][0], 0)
        self.assertNotEqual(made_answer((1, ((2,), (0,))), (1, 0))[1][0], 0)
        self.assertEqual(self.check((1, ((2,), (0,))), (1, 1)), "barred")
        self.assertEqual(self.check((0, ((), ())), (0, 0)), "made")
        self.assertEqual(self.check((0, ((), ())), (0, 1)), "barred")
        self.assertEqual(self.check((3, ()), ()), "made")

    def test_sixty_with_twelve_digits(self):
        grid = dense(60, 60, 5, MOST)
        self.assertEqual(self.check(grid, (MOST,) * 60), "barred")
        self.assertEqual(self.check((60, ((0,) * 60,) * 60), (0,) * 60), "made")
        self.assertEqual(self.check(unit(60), (MOST,) * 60), "made")
        self.assertEqual(self.check(scaled(unit(60), 2), (MOST,) * 60), "barred")
        self.check(dense(20, 60, 6, MOST), (1,) * 20)
        self.assertEqual(self.check(dense(60, 20, 6, MOST), (1,) * 60), "barred")

    def test_wrong_arguments(self):
        check_wrong(self, made_answer, (TWO, (1, 0)), ("grid", "row"))
        for row in ((), (1,), (1, 2, 3)):
            refusal(self, made_answer, (TWO, row), InvalidOperation)
        refusal(self, made_answer, ((2, ()), (0,)), InvalidOperation)


class MadeModulo(unittest.TestCase):
    def check(self, grid, row, m):
        claim, paper = made_modulo_answer(grid, row, m)
        self.assertIn(claim[0], ("made modulo", "barred modulo"))
        self.assertEqual(claim[1:], (grid, row, m))
        self.assertTrue(holds(claim, paper), (grid, row, m))
        return claim[0]

    def test_any_row(self):
        kinds = {}
        for seed, grid in enumerate(EDGE_GRIDS + tuple(grids(24, 100))):
            for place, row in enumerate(some_rows(len(grid[1]), seed)):
                for m in (1, 2 + place, 12, MOST):
                    kinds[self.check(grid, row, m)] = True
                self.assertEqual(self.check(grid, row, 1), "made modulo")
        self.assertEqual(len(kinds), 2)

    def test_by_counting(self):
        for grid in grids(25, 60, 2, 5):
            for m in (2, 3, 4, 6):
                rows = itertools.product(range(m), repeat=grid[0])
                made = {tuple([number % m for number in moved(grid, row)]) for row in rows}
                for row in itertools.product(range(m), repeat=len(grid[1])):
                    self.assertEqual(self.check(grid, row, m) == "made modulo", row in made)

    def test_sixty(self):
        for m in (2, 30, 10 ** 6, MOST):
            self.check(dense(60, 60, 5, MOST), (1,) * 60, m)
        self.assertEqual(self.check(scaled(unit(60), 2), (1,) * 60, 4), "barred modulo")
        self.assertEqual(self.check(scaled(unit(60), 2), (1,) * 60, 5), "made modulo")

    def test_wrong_arguments(self):
        check_wrong(self, made_modulo_answer, (TWO, (1, 0), 3), ("grid", "row", "from 1"))
        for row in ((), (1,), (1, 2, 3)):
            refusal(self, made_modulo_answer, (TWO, row, 3), InvalidOperation)
            refusal(self, made_modulo_answer, (TWO, row, 0), InvalidNumber)


class Stairs(unittest.TestCase):
    def check(self, grid):
        found = stairs(grid)
        self.assertTrue(are_stairs(found), grid)
        self.assertEqual(found[0], grid[0])
        self.assertEqual(len(found[1]), rank(grid))
        if max([abs(item) for row in found[1] for item in row], default=0) <= MOST:
            claim, paper = lots_answer(grid, found)
            self.assertEqual(claim, ("same lot", grid, found))
            self.assertTrue(holds(claim, paper), grid)
            self.assertEqual(stairs(found), found)
        return found

    def test_all_forms(self):
        for grid in EDGE_GRIDS + tuple(grids(26, 200)):
            self.check(grid)

    def test_just_one_for_each_lot(self):
        for grid in EDGE_GRIDS + tuple(grids(27, 60)):
            if max([abs(item) for row in grid[1] for item in row], default=0) < 1000:
                rows = list(reversed(grid[1])) + [(0,) * grid[0]]
                rows[0] = tuple([a - 3 * b for a, b in zip(rows[0], rows[-2])]) if len(rows) > 2 else rows[0]
                self.assertEqual(stairs((grid[0], tuple(rows))), stairs(grid))

    def test_sixty(self):
        self.assertEqual(self.check((60, ((0,) * 60,) * 60)), (60, ()))
        self.assertEqual(self.check(scaled(unit(60), -7)), scaled(unit(60), 7))
        self.check(dense(60, 60, 8, 1))
        self.check(dense(60, 60, 8, MOST))

    def test_wrong_arguments(self):
        check_wrong(self, stairs, (TWO,), ("grid",))


class Lots(unittest.TestCase):
    def check(self, one, other):
        claim, paper = lots_answer(one, other)
        self.assertIn(claim[0], ("same lot", "unlike lots"))
        self.assertEqual(claim[1:], (one, other))
        self.assertTrue(holds(claim, paper), (one, other))
        self.assertEqual(claim[0] == "same lot", stairs(one) == stairs(other))
        return claim[0]

    def test_random_pairs(self):
        found = grids(28, 300, 3, 3)
        for one, other in zip(found, found[1:]):
            if one[0] == other[0]:
                self.check(one, other)

    def test_told_pairs(self):
        for one, other, word in (
                ((1, ()), (1, ((0,), (0,))), "same lot"), ((0, ()), (0, ((), ())), "same lot"),
                ((1, ((2,),)), (1, ((-2,), (4,))), "same lot"), ((1, ((2,),)), (1, ((3,),)), "unlike lots"),
                ((1, ((2,),)), (1, ((1,),)), "unlike lots"), ((1, ((1,),)), (1, ((2,),)), "unlike lots"),
                ((1, ()), (1, ((2,),)), "unlike lots"), ((1, ((2,),)), (1, ()), "unlike lots"),
                ((2, ((1, 0), (0, 1))), (2, ((1, 1), (1, 2))), "same lot"),
                ((2, ((1, 0),)), (2, ((0, 1),)), "unlike lots"), (TWO, (2, ((2, 3), (2, -3))), "unlike lots")):
            self.assertEqual(self.check(one, other), word)

    def test_sixty(self):
        grid = dense(60, 60, 9, 1)
        self.assertEqual(self.check(grid, (60, tuple(reversed(grid[1])))), "same lot")
        self.assertEqual(self.check(grid, (60, grid[1][1:])), "unlike lots")
        self.assertEqual(self.check(dense(60, 60, 9, MOST), dense(60, 60, 10, MOST)), "unlike lots")

    def test_wrong_arguments(self):
        check_wrong(self, lots_answer, (TWO, TWO), ("grid", "grid"))
        refusal(self, lots_answer, (TWO, PAIR), InvalidOperation)
        refusal(self, lots_answer, ((1, ()), (2, ())), InvalidOperation)


class Kernels(unittest.TestCase):
    def check(self, grid):
        base = kernel(grid)
        claim, paper = kernel_answer(grid)
        self.assertEqual(claim, ("kernel", grid, base))
        self.assertTrue(holds(claim, paper), grid)
        self.assertTrue(are_stairs(transposed(base)), grid)
        self.assertEqual((base[0], len(base[1])), (grid[0] - rank(grid), grid[0]))
        return base

    def test_all_forms(self):
        for grid in EDGE_GRIDS + tuple(grids(29, 250, 6)):
            base = self.check(grid)
            for row in some_rows(base[0], base[0]):
                self.assertEqual(coordinates(base, moved(base, row)), row)

    def test_told_kernels(self):
        self.assertEqual(self.check((2, ((2, 4),))), (1, ((2,), (-1,))))
        self.assertEqual(self.check((3, ((0, 0, 0),))), unit(3))
        self.assertEqual(self.check((2, ((1, 0), (0, 0)))), (1, ((0,), (1,))))
        self.assertEqual(self.check(scaled(unit(3), 5)), (0, ((), (), ())))
        self.assertEqual(self.check((3, ((2, 3, 5),))), (2, ((1, 0), (1, 5), (-1, -3))))

    def test_sixty(self):
        self.assertEqual(self.check((60, ((0,) * 60,) * 60)), unit(60))
        self.assertEqual(self.check((60, ())), unit(60))
        self.assertEqual(self.check((0, ((),) * 60)), (0, ()))
        self.assertEqual(self.check(diagonal_grid((7,) * 59, 60, 60)), (1, ((0,),) * 59 + ((1,),)))
        self.check(dense(30, 60, 3, MOST))
        self.check(dense(60, 60, 3, MOST))
        self.check(times(dense(60, 20, 4, 9), dense(20, 60, 5, 9)))

    def test_wrong_arguments(self):
        for function in (kernel, kernel_answer):
            check_wrong(self, function, (TWO,), ("grid",))


class Coordinates(unittest.TestCase):
    def test_rows_of_a_kernel_and_others(self):
        base = kernel((4, ((1, 2, 3, 4),)))
        for row in some_rows(3, 1):
            self.assertEqual(coordinates(base, moved(base, row)), row)
        self.assertIsNone(coordinates(base, (1, 0, 0, 0)))
        self.assertIsNone(coordinates((1, ((2,), (0,))), (2, 1)))
        self.assertEqual(coordinates((1, ((2,), (0,))), (-4, 0)), (-2,))

    def test_no_columns_and_no_rows(self):
        self.assertEqual(coordinates((0, ()), ()), ())
        self.assertEqual(coordinates((0, ((), ())), (0, 0)), ())
        self.assertIsNone(coordinates((0, ((), ())), (0, 1)))

    def test_integers_of_any_length(self):
        base = (2, ((LONG, 3), (0, 7), (LONG, -LONG)))
        self.assertEqual(coordinates((1, ((LONG,), (-LONG,))), (LONG ** 2, -LONG ** 2)), (LONG,))
        self.assertIsNone(coordinates((1, ((LONG,), (-LONG,))), (LONG + 1, -LONG - 1)))
        self.assertIsNone(coordinates((1, ((LONG,), (-LONG,))), (LONG, LONG)))
        refusal(self, coordinates, (base, (0, 0, 0)), InvalidGrid)
        base = (2, ((LONG, 0), (3, 7), (LONG, -LONG)))
        self.assertEqual(coordinates(base, moved(base, (LONG, -LONG))), (LONG, -LONG))

    def test_bases_that_are_no_stairs_turned(self):
        for base in (
                (1, ((0,),)), (1, ((0,), (0,))), (1, ((-1,),)), (2, ((0, 1), (1, 0))), (2, ((1, 1), (0, 0))),
                (2, ((1, 0), (1, 1))), (2, ((1, 0), (-1, 1))), (2, ((1, 0), (2, 2))), (2, ((1, 0), (0, 0))),
                (1, ()), (2, ((1, 2),)), (2, ((1, 1), (0, 1)))):
            refusal(self, coordinates, (base, (0,) * len(base[1])), InvalidGrid)
            refusal(self, coordinates, (base, "row"), InvalidGrid)

    def test_wrong_arguments(self):
        let_in = [repr(value) for value in ((1, ((10 ** 12,),)), (1, ((-10 ** 12,),)), (10 ** 12,), (1, -10 ** 12))]
        for wrong in [value for value in WRONG_GRIDS if repr(value) not in let_in]:
            refusal(self, coordinates, (wrong, (1,)), InvalidGrid)
            refusal(self, coordinates, (wrong, None), InvalidGrid)
        for wrong in [value for value in WRONG_ROWS if repr(value) not in let_in]:
            refusal(self, coordinates, ((1, ((2,),)), wrong), InvalidRow)
        for row in ((), (1,), (1, 2, 3)):
            refusal(self, coordinates, ((1, ((2,), (0,))), row), InvalidOperation)


class NotTrue(unittest.TestCase):
    def test_what_is_not_true(self):
        for prime in (2, 3, 5, 7):
            self.assertEqual(made_modulo_answer((2, ((2, 3),)), (1,), prime)[0][0], "made modulo")
        self.assertEqual(made_answer((1, ((4,),)), (2,))[0][0], "barred")
        for m in (2, 3):
            self.assertEqual(made_modulo_answer((1, ((5,),)), (1,), m)[0][0], "made modulo")
        self.assertEqual(made_answer((1, ((5,),)), (1,))[0][0], "barred")
        self.assertEqual(lots_answer((1, ((4,),)), (1, ((2,),)))[0][0], "unlike lots")


if __name__ == "__main__":
    unittest.main()
